import PyProof.Rows.All
import Wide.All
import OpenK.AllK
import Wide.FinOn
import Lean
import KE.KStateDown
import HandS.ForMost
import HandS.Walk
import HandS.Evl
import HandS.Flow
import HandS.Style
import HandS.WideBits
import HandS.Defaults
import HandS.IsInst
import HandS.More
import HandS.Replace
import HandS.TupLe
import HandS.RevRange
import HandS.Conv
import HandS.TupAny
import KE.IntTextLaws
import HandS.Head0
import HandS.Head1
import HandS.Head2
import HandS.HeadEnd
import HandS.HeadHook1
import HandS.HeadHook2
import HandS.SortRule
import HandS.Gcd
import HandS.Head3
import PySem.Challenge.RW_wireyard_k33_heaps
set_option Elab.async false
set_option linter.all false
set_option maxRecDepth 100000
set_option maxHeartbeats 4000000
/-! Z: my own short steps over the hand layer: one lemma a reading, in the order in which the code runs; heaps are letters, joined by Ex. -/
namespace Z
open PySem PySem.Spec PyProof.Rows L2
open Evl (Ex ex_l ex_t ex_rd sq_of st_of fresh_back)

/-! ### short names of readings -/
abbrev rAddI : R2 := rI0 fun i j => .int (i + j)
abbrev rSubI : R2 := rI0 fun i j => .int (i - j)
abbrev rMulI : R2 := rI CMul fun i j => .int (i * j)
abbrev rMulX : R2 := rI CMulX fun i j => .int (i * j)
abbrev rDivI : R2 := rI CDiv fun i j => .int (i / j)
abbrev rDivW : R2 := rI CDivW fun i j => .int (i / j)
abbrev rIndexS : V → List V → Hp → VK → Prop := fun x xs H Q => ∃ a b i rest, x = .str a ∧ xs = [.str b] ∧ Builtin.Str.occurrences a b 0 a.length 1 = i :: rest ∧ Q (.int (i : Nat)) H
abbrev rModI : R2 := rI (fun _ j => 0 < j) fun i j => .int (i % j)
abbrev rPowI : R2 := rI CPow fun i j => .int (i ^ j.toNat)
abbrev rShlI : R2 := rI CShl fun i j => .int (i * 2 ^ j.toNat)
abbrev rShrI : R2 := rI (fun _ j => 0 ≤ j) fun i j => .int (i / 2 ^ j.toNat)
abbrev rAndI : R2 := rI0 fun i j => .int (Builtin.bitAnd i j)
abbrev rOrI : R2 := rI0 fun i j => .int (Builtin.bitOr i j)
abbrev rXorI : R2 := rI0 fun i j => .int (Builtin.bitXor i j)
abbrev rLtI : R2 := rI0 fun i j => .bl (decide (i < j))
abbrev rLeI : R2 := rI0 fun i j => .bl (decide (i ≤ j))
abbrev rGtI : R2 := rI0 fun i j => .bl (decide (j < i))
abbrev rGeI : R2 := rI0 fun i j => .bl (decide (j ≤ i))
abbrev rNegI : V → Hp → VK → Prop := rU fun i => .int (-i)
def rAddStr : R2 := fun x y H Q => ∃ i j, x = .str i ∧ y = .str j ∧ i.length + j.length ≤ sizeLine ∧ Q (.str (i ++ j)) H
def rInSgn : R2 := fun x y H Q => ∃ (c : Nat) (z : Str), x = .str ⟨#[c]⟩ ∧ y = .str z ∧ Q (.bl (decide (c ∈ z.cps.toList))) H
def rNinSgn : R2 := fun x y H Q => ∃ (c : Nat) (z : Str), x = .str ⟨#[c]⟩ ∧ y = .str z ∧ Q (.bl (!decide (c ∈ z.cps.toList))) H
abbrev cLenSeq (K : PySem.W.Frag) : List V → Hp → VK → Prop := fun xs H Q => ∃ p ys, xs = [.ref p] ∧ (SqL K H p ys ∨ SqT K H p ys) ∧ Q (.int ys.length) H
abbrev cLenStr : List V → Hp → VK → Prop := fun xs H Q => ∃ z, xs = [.str z] ∧ z.length ≤ sizeLine ∧ Q (.int z.length) H
abbrev cInt1 : List V → Hp → VK → Prop := fun xs H Q => (∃ i, xs = [.int i] ∧ Q (.int i) H) ∨ ∃ k, xs = [.bl k] ∧ Q (.int (if k then 1 else 0)) H
abbrev cMax2 : List V → Hp → VK → Prop := fun xs H Q => ∃ i j, xs = [.int i, .int j] ∧ Q (.int (if j > i then j else i)) H
abbrev cMin2 : List V → Hp → VK → Prop := fun xs H Q => ∃ i j, xs = [.int i, .int j] ∧ Q (.int (if j < i then j else i)) H
abbrev rIsBl : R2 := fun x y H Q => ∃ a b, x = .bl a ∧ y = .bl b ∧ Q (.bl (decide (a = b))) H
abbrev rNotBl : R2 := fun x y H Q => ∃ a b, x = .bl a ∧ y = .bl b ∧ Q (.bl (!decide (a = b))) H
def rMulStr : R2 := fun x y H Q => ∃ (s : Str) (n : Int), x = .str s ∧ y = .int n ∧ MulOk s n ∧ Q (.str (Txt.mul s n)) H
theorem op_mul_str {X : Cx} : OpR X (binaryOp .Mult) rMulStr := fun pins s σ H x y v u Q I rx ry h => by
  obtain ⟨z, n, rfl, rfl, hz, q⟩ := h
  obtain ⟨t1, rfl⟩ := rx
  obtain ⟨t2, rfl⟩ := ry
  exact SB.mul hz fun t' k => ⟨.str (Txt.mul z n), H, I.tok _, ⟨_, rfl⟩, q⟩
abbrev rJoin (K : PySem.W.Frag) : V → List V → Hp → VK → Prop := fun x xs H Q => ∃ a p, ∃ ys : List Str, x = .str a ∧ xs = [.ref p] ∧ (SqL K H p (ys.map V.str) ∨ SqT K H p (ys.map V.str)) ∧ (ys.map (·.length)).sum + ys.length * a.length ≤ 16777216 ∧ Q (.str (Txt.join a ys)) H
abbrev cStrInt : List V → Hp → VK → Prop := fun xs H Q => ∃ i : Int, xs = [.int i] ∧ i.natAbs.log2 < 1920 ∧ Q (.str (toString i)) H
abbrev cIntStr : List V → Hp → VK → Prop := fun xs H Q => ∃ a n, xs = [.str a] ∧ PySem.intText? a = some n ∧ a.length ≤ 640 ∧ Q (.int n) H
abbrev rPartition : V → List V → Hp → VK → Prop := fun x xs H Q => ∃ a b, x = .str a ∧ xs = [.str b] ∧ (b.length == 0) = false ∧ a.length ≤ sizeLine ∧ ∀ p, H p = none → Q (.ref p) (upd H p (.tup [.str (Txt.partition a b).1, .str (Txt.partition a b).2.1, .str (Txt.partition a b).2.2]))
abbrev rSplit : V → List V → Hp → VK → Prop := fun x xs H Q => ∃ a b, x = .str a ∧ xs = [.str b] ∧ (b.length == 0) = false ∧ a.length + 2 ≤ sizeLine ∧ ∀ p, H p = none → Q (.ref p) (upd H p (.lst ((Txt.split a b).map V.str)))
abbrev rUpper : V → List V → Hp → VK → Prop := fun x xs H Q => ∃ a, x = .str a ∧ xs = [] ∧ a.length ≤ 5592405 ∧ Q (.str (Txt.upper a)) H
abbrev tTru (K : PySem.W.Frag) (ta : TE) : TT := fun σ H Q => ta σ H fun x H' => ∃ k, TruV K x H' k ∧ Q k H'

/-! ### a def of the module and its promise -/
def DX (K : PySem.W.Frag) (mg : Str → Option Value) (x : Str) (st : Stmt) : Prop := ∃ f fd, FunD K x x (defArgs st) (defBody st) (defScope st) [] [] f fd ∧ mg x = some (.ref f)
structure Cal (P : Program) (w : World) (K : PySem.W.Frag) (mg : Str → Option Value) (base : Heap) (k : Nat) (x : Str) (sp : Sp) : Prop where
  ex : ∃ (f : Addr) (fd : FuncData) (ps : List Str), FnOk P w K mg base CX0 k f fd ps sp ∧ mg x = some (.ref f) ∧ PySem.W.keepIn K (.ref f) = true ∧ Binds K fd ps []
section
variable {X : Cx} {k j : Nat} {x : Str} {sp : Sp} {p pos : Pos} {e : Expr} {es : List Expr} {t : TA}
theorem pe_c (c : Cal X.prog X.w X.K X.mg X.base k x sp) (hr : Room j X.A) (hk : k ≤ j) (hg : Gl X x) (ha : PA X (e :: es) t)
    (hdb : (x == ("__debug__" : Str)) = false := by decide) (he : starEach (e :: es) X.env = (false, eval e X.env) :: starEach es X.env := by rfl) (hpl : (backTo pos (starEach es X.env)).any (·.1) = false := by rfl) :
    PE X (.Call (.Name x p) (e :: es) [] pos) (tCall sp [] E0 t) := by
  obtain ⟨f, fd, ps, F, hm, kp, b⟩ := c.ex
  exact pe_call F (hr.mono hk) hg hm kp b .nil pass0 ha hdb he hpl
theorem pe_c0 (c : Cal X.prog X.w X.K X.mg X.base k x sp) (hr : Room j X.A) (hk : k ≤ j) (hg : Gl X x) (hdb : (x == ("__debug__" : Str)) = false := by decide) :
    PE X (.Call (.Name x p) [] [] pos) (tCall sp [] E0 tNil) := by
  obtain ⟨f, fd, ps, F, hm, kp, b⟩ := c.ex
  exact pe_call0 F (hr.mono hk) hg hm kp b .nil pass0 hdb
/-- a name of the module, by its value -/
theorem pe_gc {v : V} (hg : Gl X x) (h : ∃ u, X.mg x = some u ∧ RelV v u) (hd : (x == ("__debug__" : Str)) = false := by decide) : PE X (.Name x pos) (tC v) := by
  obtain ⟨u, hm, r⟩ := h
  exact pe_glob hg hm r hd
end
section
variable {P : Program} {w : World} {K : PySem.W.Frag} {mg : Str → Option Value} {base : Heap}
theorem cal_mk {x : Str} {st : Stmt} {N ps : List Str} {k : Nat} {sp : Sp} {t : TS} (D : DX K mg x st) (S : FnScope N ps (defScope st))
    (hb : ∀ (kV doc pm : Value) (an : Option Addr) (cdv ct : Value) (us : List Value), us.length = ps.length → bindArgs (PySem.W.fnOf x x (defArgs st) (defBody st) (defScope st) .none kV doc pm an cdv ct) ⟨us, []⟩ = pure (ps.zip us))
    (len : ∀ vs H Q E, sp vs H Q E → vs.length = ps.length)
    (hd : ∀ (f : Addr) (cdv : Value) (A : Around) (outer : List Env) (s : Shared) (H : Hp) (E : XK), Room k (A.deeper (envOfC x (defScope st) s.heap.objs.size f cdv)) → PSs (cxOf CX0 P w K mg base N x (defScope st) f cdv A outer s H E).nox (defBody st) t)
    (hv : ∀ vs H Q E, sp vs H Q E → t { nx := fun _ H' => Q .non H', rt := Q } (start N vs) H) : Cal P w K mg base (k + 1) x sp := by
  obtain ⟨f, fd, F, hm⟩ := D
  exact ⟨f, fd, ps, F.ok S len fun cdv A outer s H vs Q E hr h => ⟨t, PSs.nox (hd f cdv A outer s H E hr), hv vs H Q E h⟩, hm, F.kp, F.bindsN hb⟩
end
theorem hu64 {A : Around} {k : Nat} (hr : Room k A) : A.units + 64 < cLine := by have := hr.un; omega

/-! ### heaps: the facts of an elder one -/
section
variable {K : PySem.W.Frag} {σ : L2.St} {H H' : Hp} {Q : VK} {QB : Bool → Hp → Prop} {QA : List V → Hp → Prop} {QO : Option Int → Hp → Prop} {D : Ends} {v x y : V} {i j : Int} {a p : Addr} {xs : List V} {s z : Str} {b : Bool}
variable {ta tb te tc : TE} {t u : TT} {tl th : TO} {tr : TA} {ts tu : TS} {r : R2} {g : TG}

theorem szl {n : Nat} (h : n ≤ 1000) : n ≤ sizeLine := Nat.le_trans h (by decide)
theorem szlt {n : Nat} (h : n ≤ 1000) : n < sizeLine := Nat.lt_of_le_of_lt h (by decide)
/-! ### expressions -/
theorem z_var {n : Nat} (h : σ[n]? = some (some v)) (q : Q v H) : tVar n σ H Q := ⟨v, h, q⟩
theorem z_c (q : Q v H) : tC v σ H Q := q
theorem z_op (q : ta σ H fun x H1 => tb σ H1 fun y H2 => r x y H2 Q) : tOp r ta tb σ H Q := q
theorem z_un {r : V → Hp → VK → Prop} (q : ta σ H fun x H1 => r x H1 Q) : tUn r ta σ H Q := q
theorem z_i0 {f : Int → Int → V} (q : Q (f i j) H) : rI0 f (.int i) (.int j) H Q := ⟨i, j, rfl, rfl, q⟩
theorem z_i {C : Int → Int → Prop} {f : Int → Int → V} (h : C i j) (q : Q (f i j) H) : rI C f (.int i) (.int j) H Q := ⟨i, j, rfl, rfl, h, q⟩
theorem z_u {f : Int → V} (q : Q (f i) H) : rU f (.int i) H Q := ⟨i, rfl, q⟩
theorem z_eq (h : scal x y = true) (q : Q (.bl (decide (x = y))) H) : rEq x y H Q := ⟨h, q⟩
theorem z_ne (h : scal x y = true) (q : Q (.bl (!decide (x = y))) H) : rNe x y H Q := ⟨h, q⟩
theorem z_addS (h : s.length + z.length ≤ sizeLine) (q : Q (.str (s ++ z)) H) : rAddStr (.str s) (.str z) H Q := ⟨s, z, rfl, rfl, h, q⟩
theorem z_inS {c : Nat} (q : Q (.bl (decide (c ∈ z.cps.toList))) H) : rInSgn (.str ⟨#[c]⟩) (.str z) H Q := ⟨c, z, rfl, rfl, q⟩
theorem z_ninS {c : Nat} (q : Q (.bl (!decide (c ∈ z.cps.toList))) H) : rNinSgn (.str ⟨#[c]⟩) (.str z) H Q := ⟨c, z, rfl, rfl, q⟩
theorem z_if (q : t σ H fun c H1 => if c = true then ta σ H1 Q else tb σ H1 Q) : tIf t ta tb σ H Q := q
theorem z_andT (q : ta σ H fun x H1 => ∃ k, TruV K x H1 k ∧ if k = true then tb σ H1 Q else Q x H1) : tAndT K ta tb σ H Q := q
theorem z_orT (q : ta σ H fun x H1 => ∃ k, TruV K x H1 k ∧ if k = true then Q x H1 else tb σ H1 Q) : tOrT K ta tb σ H Q := q
theorem z_notT (q : ta σ H fun x H1 => ∃ k, TruV K x H1 k ∧ Q (.bl (!k)) H1) : tNotT K ta σ H Q := q
theorem z_isN (q : ta σ H fun x H1 => Q (.bl (decide (x = .non))) H1) : tIsN ta σ H Q := q
theorem z_notN (q : ta σ H fun x H1 => Q (.bl (!decide (x = .non))) H1) : tNotN ta σ H Q := q
theorem z_nil (q : QA [] H) : tNil σ H QA := q
theorem z_cons (q : te σ H fun x H1 => tr σ H1 fun xs H2 => QA (x :: xs) H2) : tCons te tr σ H QA := q
theorem z_call {sp : Sp} {E : XK} (q : tr σ H fun vs H1 => sp (vs ++ []) H1 Q E) : tCall sp [] E tr σ H Q := q
theorem z_cb {r : List V → Hp → VK → Prop} (q : tr σ H fun vs H1 => r vs H1 Q) : tCB r tr σ H Q := q
theorem z_lst (q : tr σ H fun xs H1 => xs.length ≤ sizeLine ∧ ∀ p, H1 p = none → Q (.ref p) (upd H1 p (.lst xs))) : tLst tr σ H Q := q
theorem z_tup (q : tr σ H fun xs H1 => xs.length ≤ sizeLine ∧ ∀ p, H1 p = none → Q (.ref p) (upd H1 p (.tup xs))) : tTup tr σ H Q := q
theorem z_ixL {l : Addr} (h : SqL K H l xs) (e : atI xs i = some v) (q : Q v H) : rIxL K (.ref l) (.int i) H Q := ⟨l, xs, i, v, rfl, rfl, h, e, q⟩
theorem z_ixT {l : Addr} (h : SqT K H l xs) (e : atI xs i = some v) (q : Q v H) : rIxT K (.ref l) (.int i) H Q := ⟨l, xs, i, v, rfl, rfl, h, e, q⟩
theorem z_ixS {c : Nat} (h : z.length ≤ sizeLine) (e : atI z.cps.toList i = some c) (q : Q (.str ⟨#[c]⟩) H) : rIxS (.str z) (.int i) H Q := ⟨z, i, c, rfl, rfl, h, e, q⟩
theorem z_cat {l m : Addr} {ys : List V} (h : H l = some (.lst xs)) (h2 : H m = some (.lst ys)) (hz : xs.length + ys.length ≤ sizeLine) (q : ∀ p, H p = none → Q (.ref p) (upd H p (.lst (xs ++ ys)))) : rCat (.ref l) (.ref m) H Q := ⟨l, m, xs, ys, rfl, rfl, h, h2, hz, q⟩
theorem z_rep {l : Addr} {k : Int} (h : H l = some (.lst xs)) (h1 : -(2 ^ 63) ≤ k) (h2 : k < 2 ^ 63) (hz : xs.length * k.toNat ≤ sizeLine) (q : ∀ p, H p = none → Q (.ref p) (upd H p (.lst (List.replicate k.toNat xs).flatten))) : rRep (.ref l) (.int k) H Q := ⟨l, k, xs, rfl, rfl, h, h1, h2, hz, q⟩
theorem z_inL {l : Addr} {neg : Bool} (h : SqL K H l xs) (hx : flatV x = true) (hs : xs.all flatV = true) (q : Q (.bl (if neg then !inV x xs else inV x xs)) H) : rIn K neg x (.ref l) H Q := ⟨l, xs, rfl, .inl h, hx, hs, q⟩
theorem z_inT {l : Addr} {neg : Bool} (h : SqT K H l xs) (hx : flatV x = true) (hs : xs.all flatV = true) (q : Q (.bl (if neg then !inV x xs else inV x xs)) H) : rIn K neg x (.ref l) H Q := ⟨l, xs, rfl, .inr h, hx, hs, q⟩
theorem z_lenL {l : Addr} (h : SqL K H l xs) (q : Q (.int xs.length) H) : cLenSeq K [.ref l] H Q := ⟨l, xs, rfl, .inl h, q⟩
theorem z_lenT {l : Addr} (h : SqT K H l xs) (q : Q (.int xs.length) H) : cLenSeq K [.ref l] H Q := ⟨l, xs, rfl, .inr h, q⟩
theorem z_lenS (h : z.length ≤ sizeLine) (q : Q (.int z.length) H) : cLenStr [.str z] H Q := ⟨z, rfl, h, q⟩
theorem z_int1 (q : Q (.int i) H) : cInt1 [.int i] H Q := .inl ⟨i, rfl, q⟩
theorem z_intb (q : Q (.int (if b then 1 else 0)) H) : cInt1 [.bl b] H Q := .inr ⟨b, rfl, q⟩
theorem z_max2 (q : Q (.int (if j > i then j else i)) H) : cMax2 [.int i, .int j] H Q := ⟨i, j, rfl, q⟩
theorem z_min2 (q : Q (.int (if j < i then j else i)) H) : cMin2 [.int i, .int j] H Q := ⟨i, j, rfl, q⟩
theorem z_revL (q : te σ H fun x H1 => ∃ a xs, x = .ref a ∧ SqL K H1 a xs ∧ ∀ p, H1 p = none → Q (.ref p) (upd H1 p (.lst xs.reverse))) : tRevL K te σ H Q := q
theorem z_revL1 (h : SqL K H a xs) (q : ∀ p, H p = none → Q (.ref p) (upd H p (.lst xs.reverse))) : ∃ a' xs', V.ref a = .ref a' ∧ SqL K H a' xs' ∧ ∀ p, H p = none → Q (.ref p) (upd H p (.lst xs'.reverse)) := ⟨a, xs, rfl, h, q⟩
theorem z_isi {T U : String} (h : TyX K H x (.type T)) (e : PySem.W.kitOne K (.type T) (.type U) = some b) (q : Q (.bl b) H) : rIsi K [x, .ty U] H Q := ⟨x, _, _, _, b, rfl, .ty U, h, e, q⟩
theorem z_dnew (q : ∀ p, H p = none → Q (.ref p) (upd H p (.dK []))) : tDNewK σ H Q := q
theorem z_isbl {c d : Bool} (q : Q (.bl (decide (c = d))) H) : rIsBl (.bl c) (.bl d) H Q := ⟨c, d, rfl, rfl, q⟩
theorem z_notbl {c d : Bool} (q : Q (.bl (!decide (c = d))) H) : rNotBl (.bl c) (.bl d) H Q := ⟨c, d, rfl, rfl, q⟩
theorem z_mulS {n : Int} (h : MulOk s n) (q : Q (.str (Txt.mul s n)) H) : rMulStr (.str s) (.int n) H Q := ⟨s, n, rfl, rfl, h, q⟩
theorem z_strI (h : i.natAbs.log2 < 1920) (q : Q (.str (toString i)) H) : cStrInt [.int i] H Q := ⟨i, rfl, h, q⟩
theorem z_nopart (q : QO none H) : tNoPart σ H QO := q
theorem z_part (q : te σ H fun x H1 => ∃ i, x = .int i ∧ QO (some i) H1) : tPart te σ H QO := q
theorem z_part1 {R : Int → Prop} (q : R i) : ∃ j, V.int i = .int j ∧ R j := ⟨i, rfl, q⟩
theorem z_sl {r : V → Option Int → Option Int → Hp → VK → Prop} (q : te σ H fun x H1 => tl σ H1 fun l H2 => th σ H2 fun u H3 => r x l u H3 Q) : tSl r te tl th σ H Q := q
theorem z_slL {lo hi : Option Int} (h : SqL K H a xs) (q : ∀ p, H p = none → Q (.ref p) (upd H p (.lst (cutV xs lo hi)))) : rSlL K (.ref a) lo hi H Q := ⟨a, xs, rfl, h, q⟩
theorem z_slS {lo hi : Option Int} (h : z.length ≤ sizeLine) (q : Q (.str (cutS z lo hi)) H) : rSlS (.str z) lo hi H Q := ⟨z, rfl, h, q⟩
theorem z_chain {r r' : R2} (q : ta σ H fun x H1 => tb σ H1 fun y H2 => r x y H2 fun z H3 => ∃ k, z = .bl k ∧ if k = true then tc σ H3 fun w' H4 => r' y w' H4 Q else Q (.bl false) H3) : tChain r r' ta tb tc σ H Q := q

/-! ### truth -/
theorem z_test (q : te σ H fun x H' => ∃ k, x = .bl k ∧ QB k H') : tTest te σ H QB := q
theorem z_tB (q : te σ H fun x H' => ∃ k, x = .bl k ∧ QB k H') : tB te σ H QB := q
theorem z_bl {R : Bool → Prop} (q : R b) : ∃ k, V.bl b = .bl k ∧ R k := ⟨b, rfl, q⟩
theorem z_tru (q : ta σ H fun x H' => ∃ k, TruV K x H' k ∧ QB k H') : tTru K ta σ H QB := q
theorem z_trub {R : Bool → Prop} (q : R b) : ∃ k, TruV K (.bl b) H k ∧ R k := ⟨b, rfl, q⟩
theorem z_trui {R : Bool → Prop} (q : R (i != 0)) : ∃ k, TruV K (.int i) H k ∧ R k := ⟨_, rfl, q⟩
theorem z_trun {R : Bool → Prop} (q : R false) : ∃ k, TruV K .non H k ∧ R k := ⟨_, rfl, q⟩
theorem z_trul {R : Bool → Prop} (h : SqL K H a xs) (q : R (!xs.isEmpty)) : ∃ k, TruV K (.ref a) H k ∧ R k := ⟨_, .inl ⟨xs, h, rfl⟩, q⟩
theorem z_and (q : t σ H fun c H1 => if c = true then u σ H1 QB else QB false H1) : tAnd t u σ H QB := q
theorem z_or (q : t σ H fun c H1 => if c = true then QB true H1 else u σ H1 QB) : tOr t u σ H QB := q
theorem z_not (q : t σ H fun c H1 => QB (!c) H1) : tNot t σ H QB := q
theorem z_yes (q : QB true H) : tYes σ H QB := q
theorem ite_t {A B : Prop} (q : A) : if true = true then A else B := by rw [if_pos rfl]; exact q
theorem ite_f {A B : Prop} (q : B) : if false = true then A else B := by rw [if_neg Bool.false_ne_true]; exact q
theorem ite_b {A B : Prop} (h1 : b = true → A) (h2 : b = false → B) : if b = true then A else B := by
  cases b with
  | true => exact ite_t (h1 rfl)
  | false => exact ite_f (h2 rfl)

/-! ### statements -/
theorem z_seq (q : ts { D with nx := tu D } σ H) : tSeq ts tu D σ H := q
theorem z_cut (Mid : L2.St → Hp → Prop) (h : ts { D with nx := Mid } σ H) (q : ∀ σ' H', Mid σ' H' → tu D σ' H') : Evl.tCut ts tu D σ H := ⟨Mid, h, q⟩
theorem z_next (q : D.nx σ H) : tNext D σ H := q
theorem z_ret (q : te σ H D.rt) : tRet te D σ H := q
theorem z_retN (q : D.rt .non H) : tRetN D σ H := q
theorem z_drop (q : te σ H fun _ H1 => D.nx σ H1) : tDrop te D σ H := q
theorem z_ifs (q : t σ H fun b H1 => if b = true then ts D σ H1 else tu D σ H1) : tIfS t ts tu D σ H := q
theorem z_asg (q : te σ H fun x H1 => g x σ H1 D.nx) : tAsg te g D σ H := q
theorem z_brk (q : D.bk σ H) : tBreak D σ H := q
theorem z_cont (q : D.ct σ H) : tCont D σ H := q
theorem z_gname {n : Nat} {QS : L2.St → Hp → Prop} (q : QS (σ.set n (some v)) H) : gName n v σ H QS := q
theorem z_aug {n : Nat} {f : Int → Int → Int} (h : σ[n]? = some (some (.int i))) (q : te σ H fun y H1 => ipI f (.int i) y H1 fun z H2 => D.nx (σ.set n (some z)) H2) : tAug n te (ipI f) D σ H := ⟨.int i, h, q⟩
theorem z_ipi {f : Int → Int → Int} (q : Q (.int (f i j)) H) : ipI f (.int i) (.int j) H Q := ⟨i, j, rfl, rfl, q⟩
theorem z_gtup2 {m n : Nat} {QS : L2.St → Hp → Prop} (h : SqT K H a [x, y]) (q : QS ((σ.set m (some x)).set n (some y)) H) : gTup K 2 (gCons (gName m) (gCons (gName n) gNil)) (.ref a) σ H QS := ⟨a, _, rfl, h, rfl, x, [y], rfl, y, [], rfl, rfl, q⟩
theorem z_bm {r : V → List V → Hp → VK → Prop} {T : String} (q : te σ H fun x H1 => tyV K T x H1 ∧ tr σ H1 fun xs H2 => r x xs H2 Q) : tBM K T r te tr σ H Q := q
theorem z_bm0 {r : V → List V → Hp → VK → Prop} {T : String} (q : te σ H fun x H1 => tyV K T x H1 ∧ r x [] H1 Q) : tBM0 K T r te σ H Q := q
theorem z_tyl {R : Prop} (h : SqL K H a xs) (q : R) : tyV K "list" (.ref a) H ∧ R := ⟨.inl ⟨rfl, xs, h⟩, q⟩
theorem z_tys {R : Prop} (q : R) : tyV K "str" (.str z) H ∧ R := ⟨rfl, q⟩
theorem z_rapp (h : H a = some (.lst xs)) (hz : xs.length < sizeLine) (q : Q .non (upd H a (.lst (xs ++ [v])))) : rAppend (.ref a) [v] H Q := ⟨a, xs, v, rfl, rfl, h, hz, q⟩
theorem z_rext {c : Addr} {ys : List V} (h : H a = some (.lst xs)) (h2 : H c = some (.lst ys)) (hz : xs.length + ys.length ≤ sizeLine) (q : Q .non (upd H a (.lst (xs ++ ys)))) : rExtend (.ref a) [.ref c] H Q := ⟨a, c, xs, ys, rfl, rfl, h, h2, hz, q⟩
theorem z_rpop (h : H a = some (.lst xs)) (e : xs[xs.length - 1]? = some v) (q : Q v (upd H a (.lst xs.dropLast))) : rPop (.ref a) [] H Q := ⟨a, xs, v, rfl, rfl, h, e, q⟩
end
/-! ### loops -/
def FW (J : It) (g : TG) (tb : TS) (D : Ends) (σ : L2.St) (H1 : Hp) : Prop := ∃ W : Nat → Nat → L2.St → Hp → Prop, (∃ m, W 0 m σ H1) ∧ ∀ i m σ H, W i m σ H →
  (J.stop i H ∧ D.nx σ H) ∨ (J.go i H ∧ ∃ N : L2.St → Hp → Prop, (∀ σ' H', N σ' H' → ∃ m', m' < m ∧ W (i + 1) m' σ' H') ∧ ∀ x H', J.yld i H x H' → g x σ H' fun σ2 H2 => tb { D with nx := N, ct := N, bk := D.nx } σ2 H2)
def FL (K : PySem.W.Frag) (g : TG) (tb : TS) (D : Ends) (σ : L2.St) (x : V) (H1 : Hp) : Prop := ∃ a, x = .ref a ∧ (∃ xs, SqL K H1 a xs) ∧ FW (Itl K a) g tb D σ H1
def FT (K : PySem.W.Frag) (g : TG) (tb : TS) (D : Ends) (σ : L2.St) (x : V) (H1 : Hp) : Prop := ∃ a, x = .ref a ∧ (∃ xs, SqT K H1 a xs) ∧ FW (Itt K a) g tb D σ H1
def FS (g : TG) (tb : TS) (D : Ends) (σ : L2.St) (v : V) (H1 : Hp) : Prop := ∃ x, v = .str x ∧ FW (Its x) g tb D σ H1
def FR1 (g : TG) (tb : TS) (D : Ends) (σ : L2.St) (vs : List V) (H1 : Hp) : Prop := ∃ j : Int, vs = [.int j] ∧ -(2 ^ 62) ≤ j ∧ j < 2 ^ 62 ∧ FW (Itr 0 j.toNat) g tb D σ H1
def FR2 (g : TG) (tb : TS) (D : Ends) (σ : L2.St) (vs : List V) (H1 : Hp) : Prop := ∃ i j : Int, vs = [.int i, .int j] ∧ (-(2 ^ 62) ≤ i ∧ i < 2 ^ 62 ∧ -(2 ^ 62) ≤ j ∧ j < 2 ^ 62) ∧ FW (Itr i (j - i).toNat) g tb D σ H1
def FZ (K : PySem.W.Frag) (g : TG) (tb : TS) (D : Ends) (σ : L2.St) (vs : List V) (H1 : Hp) : Prop := ∃ a b xs ys, vs = [.ref a, .ref b] ∧ SqL K H1 a xs ∧ SqL K H1 b ys ∧ FW (Itz K a b) g tb D σ H1
def FE (K : PySem.W.Frag) (g : TG) (tb : TS) (D : Ends) (σ : L2.St) (vs : List V) (H1 : Hp) : Prop := ∃ a xs, vs = [.ref a] ∧ SqL K H1 a xs ∧ FW (Ite K a) g tb D σ H1
section
variable {K : PySem.W.Frag} {σ : L2.St} {H : Hp} {D : Ends} {g : TG} {tb tu : TS} {te : TE} {ta : TA} {a b : Addr} {xs ys : List V}
theorem z_fl (q : te σ H fun x H1 => FL K g tb D σ x H1) : tFor (iList K te) g tb D σ H := q
theorem z_ft (q : te σ H fun x H1 => FT K g tb D σ x H1) : tFor (iTup K te) g tb D σ H := q
theorem z_fs (q : te σ H fun x H1 => FS g tb D σ x H1) : tFor (iStr te) g tb D σ H := q
theorem z_fr1 (q : ta σ H fun x H1 => FR1 g tb D σ x H1) : tFor (iRng1 ta) g tb D σ H := q
theorem z_fr2 (q : ta σ H fun x H1 => FR2 g tb D σ x H1) : tFor (iRng2 ta) g tb D σ H := q
theorem z_fz (q : ta σ H fun x H1 => FZ K g tb D σ x H1) : tFor (iZip K ta) g tb D σ H := q
theorem z_fe (q : ta σ H fun x H1 => FE K g tb D σ x H1) : tFor (iEnum K ta) g tb D σ H := q
/-- over a list: Pv by the turn, the slots, the heap -/
theorem z_FL (hx : SqL K H a xs) (Pv : Nat → L2.St → Hp → Prop) (h0 : Pv 0 σ H) (hG : ∀ i σ H, i ≤ xs.length → Pv i σ H → SqL K H a xs)
    (hs : ∀ i x σ H, i < xs.length → xs[i]? = some x → Pv i σ H → g x σ H fun σ2 H2 => tb { D with nx := Pv (i + 1), ct := Pv (i + 1), bk := D.nx } σ2 H2) (hd : ∀ σ H, Pv xs.length σ H → D.nx σ H) : FL K g tb D σ (.ref a) H :=
  ⟨a, rfl, ⟨xs, hx⟩, for_it walk_list Pv h0 hG (fun i x σ H H' hi p y => by
    obtain ⟨rfl, e⟩ := y
    exact hs i x σ _ hi e p) hd⟩
theorem z_FT (hx : SqT K H a xs) (Pv : Nat → L2.St → Hp → Prop) (h0 : Pv 0 σ H) (hG : ∀ i σ H, i ≤ xs.length → Pv i σ H → SqT K H a xs)
    (hs : ∀ i x σ H, i < xs.length → xs[i]? = some x → Pv i σ H → g x σ H fun σ2 H2 => tb { D with nx := Pv (i + 1), ct := Pv (i + 1), bk := D.nx } σ2 H2) (hd : ∀ σ H, Pv xs.length σ H → D.nx σ H) : FT K g tb D σ (.ref a) H :=
  ⟨a, rfl, ⟨xs, hx⟩, for_it walk_tup Pv h0 hG (fun i x σ H H' hi p y => by
    obtain ⟨rfl, e⟩ := y
    exact hs i x σ _ hi e p) hd⟩
theorem z_FS {z : Str} (Pv : Nat → L2.St → Hp → Prop) (h0 : Pv 0 σ H)
    (hs : ∀ i (c : Nat) σ H, i < z.cps.size → z.cps[i]? = some c → Pv i σ H → g (.str ⟨#[c]⟩) σ H fun σ2 H2 => tb { D with nx := Pv (i + 1), ct := Pv (i + 1), bk := D.nx } σ2 H2) (hd : ∀ σ H, Pv z.cps.size σ H → D.nx σ H) : FS g tb D σ (.str z) H :=
  ⟨z, rfl, for_it walk_str Pv h0 (fun _ _ _ _ _ => trivial) (fun i x σ H H' hi p y => by
    obtain ⟨rfl, c, e, rfl⟩ := y
    exact hs i c σ _ hi e p) hd⟩
theorem z_FR1 {n : Int} (hn : -(2 ^ 62) ≤ n ∧ n < 2 ^ 62) (Pv : Nat → L2.St → Hp → Prop) (h0 : Pv 0 σ H)
    (hs : ∀ (i : Nat) σ H, i < n.toNat → Pv i σ H → g (.int (i : Int)) σ H fun σ2 H2 => tb { D with nx := Pv (i + 1), ct := Pv (i + 1), bk := D.nx } σ2 H2) (hd : ∀ σ H, Pv n.toNat σ H → D.nx σ H) : FR1 g tb D σ [.int n] H :=
  ⟨n, rfl, hn.1, hn.2, for_it walk_range Pv h0 (fun _ _ _ _ _ => trivial) (fun i x σ H H' hi p y => by
    obtain ⟨rfl, rfl⟩ := y
    show g (.int (0 + (i : Int))) σ H' _
    rw [Int.zero_add]
    exact hs i σ _ hi p) hd⟩
theorem z_FZ {n : Nat} (hn : n = min xs.length ys.length) (hx : SqL K H a xs) (hy : SqL K H b ys) (Pv : Nat → L2.St → Hp → Prop) (h0 : Pv 0 σ H) (hG : ∀ i σ H, i ≤ n → Pv i σ H → SqL K H a xs ∧ SqL K H b ys)
    (hs : ∀ i x y p σ H H', i < n → xs[i]? = some x → ys[i]? = some y → Pv i σ H → Ex H H' → H p = none → H' = upd H p (.tup [x, y]) → g (.ref p) σ H' fun σ2 H2 => tb { D with nx := Pv (i + 1), ct := Pv (i + 1), bk := D.nx } σ2 H2) (hd : ∀ σ H, Pv n σ H → D.nx σ H) : FZ K g tb D σ [.ref a, .ref b] H :=
  ⟨a, b, xs, ys, rfl, hx, hy, for_it (walk_zip hn) Pv h0 hG (fun i x σ H H' hi p y => by
    obtain ⟨T, u, v, rfl, e1, rfl, e3, e4⟩ := y
    exact hs i u v T σ _ _ hi e3 e4 p (Ex.new e1) e1 rfl) hd⟩
theorem z_FE (hx : SqL K H a xs) (Pv : Nat → L2.St → Hp → Prop) (h0 : Pv 0 σ H) (hG : ∀ i σ H, i ≤ xs.length → Pv i σ H → SqL K H a xs)
    (hs : ∀ i x p σ H H', i < xs.length → xs[i]? = some x → Pv i σ H → Ex H H' → H p = none → H' = upd H p (.tup [.int (i : Nat), x]) → g (.ref p) σ H' fun σ2 H2 => tb { D with nx := Pv (i + 1), ct := Pv (i + 1), bk := D.nx } σ2 H2) (hd : ∀ σ H, Pv xs.length σ H → D.nx σ H) : FE K g tb D σ [.ref a] H :=
  ⟨a, xs, rfl, hx, for_it walk_enum Pv h0 hG (fun i x σ H H' hi p y => by
    obtain ⟨T, u, v, rfl, e1, rfl, e3, e4⟩ := y
    cases e3
    exact hs i v T σ _ _ hi e4 p (Ex.new e1) e1 rfl) hd⟩
theorem z_while {tc : TT} (W : Nat → L2.St → Hp → Prop) (m : Nat) (h0 : W m σ H) (hs : ∀ m σ H, W m σ H → tc σ H fun b H1 => if b = true then ∃ N : L2.St → Hp → Prop, (∀ σ' H', N σ' H' → ∃ m', m' < m ∧ W m' σ' H') ∧ tb { D with nx := N, ct := N, bk := D.nx } σ H1 else D.nx σ H1) : tWhile tc tb D σ H := ⟨W, ⟨m, h0⟩, hs⟩
end
/-! ### comprehensions -/
def CW (J : It) (g : TG) (tt : TT) (te : TE) (vs : List Nat) (σ : L2.St) (H1 : Hp) (Q : VK) : Prop := ∀ D, H1 D = none → ∃ W : Nat → Nat → Hp → Prop, (∃ m, W 0 m (upd H1 D (.lst []))) ∧ ∀ i m H, W i m H →
  (J.stop i H ∧ Q (.ref D) H) ∨ (J.go i H ∧ ∃ Nx : Hp → Prop, (∀ H', Nx H' → ∃ m', m' < m ∧ W (i + 1) m' H') ∧ ∀ x H', J.yld i H x H' → g x (wipe σ vs) H' fun σ2 H2 => wipe σ2 vs = wipe σ vs ∧ tt σ2 H2 fun b H3 =>
    if b = true then te σ2 H3 fun y H4 => ∃ acc, H4 D = some (.lst acc) ∧ acc.length < sizeLine ∧ Nx (upd H4 D (.lst (acc ++ [y]))) else Nx H3)
def CL (K : PySem.W.Frag) (g : TG) (tt : TT) (te : TE) (vs : List Nat) (σ : L2.St) (x : V) (H1 : Hp) (Q : VK) : Prop := ∃ a, x = .ref a ∧ (∃ xs, SqL K H1 a xs) ∧ CW (Itl K a) g tt te vs σ H1 Q
def CS (g : TG) (tt : TT) (te : TE) (vs : List Nat) (σ : L2.St) (x : V) (H1 : Hp) (Q : VK) : Prop := ∃ z, x = .str z ∧ CW (Its z) g tt te vs σ H1 Q
def CR1 (g : TG) (tt : TT) (te : TE) (vs : List Nat) (σ : L2.St) (xs : List V) (H1 : Hp) (Q : VK) : Prop := ∃ j : Int, xs = [.int j] ∧ -(2 ^ 62) ≤ j ∧ j < 2 ^ 62 ∧ CW (Itr 0 j.toNat) g tt te vs σ H1 Q
def CRv (g : TG) (tt : TT) (te : TE) (vs : List Nat) (σ : L2.St) (x : V) (H1 : Hp) (Q : VK) : Prop := ∃ n : Int, x = .int n ∧ (-(2 ^ 62) ≤ (0 : Int) ∧ (0 : Int) < 2 ^ 62 ∧ -(2 ^ 62) ≤ n ∧ n < 2 ^ 62 ∧ CW (Itc (0 + (((n - 0).toNat : Nat) : Int) - 1) (-1) (n - 0).toNat) g tt te vs σ H1 Q)
section
variable {K : PySem.W.Frag} {σ : L2.St} {H : Hp} {Q : VK} {g : TG} {tt : TT} {te tl : TE} {ta : TA} {vs : List Nat} {a : Addr} {xs : List V} {J : It} {n j : Nat} {G : Hp → Prop}
theorem z_cl (q : tl σ H fun x H1 => CL K g tt te vs σ x H1 Q) : tLc (iList K tl) g tt te vs σ H Q := q
theorem z_cs (q : tl σ H fun x H1 => CS g tt te vs σ x H1 Q) : tLc (iStr tl) g tt te vs σ H Q := q
theorem z_cr1 (q : ta σ H fun x H1 => CR1 g tt te vs σ x H1 Q) : tLc (iRng1 ta) g tt te vs σ H Q := q
theorem z_crv (q : tl σ H fun x H1 => CRv g tt te vs σ x H1 Q) : tLc (iRevR (tRg1 tl)) g tt te vs σ H Q := q
/-- things without objects of their own -/
theorem z_CW {X : Nat → V} (w : Walk J n G (fun i H x H' => H' = H ∧ x = X i)) (hn : n ≤ 40000) (hG : ∀ H', Ex H H' → G H') (f : Nat → Bool) (v : Nat → V) (hw : ∀ x, wipe ((wipe σ vs).set j (some x)) vs = wipe σ vs)
    (ht : ∀ i H', i < n → Ex H H' → Evl.EvT tt ((wipe σ vs).set j (some (X i))) H' (f i)) (he : ∀ i H', i < n → Ex H H' → f i = true → Evl.Ev te ((wipe σ vs).set j (some (X i))) H' (v i))
    (q : ∀ p H2, H p = none → Ex H H2 → H2 p = some (.lst (Evl.given n f v)) → Q (.ref p) H2) : CW J (gName j) tt te vs σ H Q := fun Dl hD =>
  lc_it w (Evl.Cw H f v Dl) ⟨hD, Ex.new hD, upd_same⟩ (fun _ _ _ p => hG _ p.2.1) (fun i x H1 H2 hi p y => by
    obtain ⟨rfl, rfl⟩ := y
    exact ⟨hw _, Evl.cw_turn p (by omega) (ht i H hi (Ex.refl H)) (fun hf => he i H hi (Ex.refl H) hf)⟩) (fun H' p => q Dl H' p.1 p.2.1 p.2.2)
theorem z_CL (hx : SqL K H a xs) (hz : xs.length ≤ 40000) (f : Nat → Bool) (v : Nat → V) (hw : ∀ x, wipe ((wipe σ vs).set j (some x)) vs = wipe σ vs)
    (ht : ∀ i x H', i < xs.length → xs[i]? = some x → Ex H H' → Evl.EvT tt ((wipe σ vs).set j (some x)) H' (f i)) (he : ∀ i x H', i < xs.length → xs[i]? = some x → Ex H H' → f i = true → Evl.Ev te ((wipe σ vs).set j (some x)) H' (v i))
    (q : ∀ p H2, H p = none → Ex H H2 → H2 p = some (.lst (Evl.given xs.length f v)) → Q (.ref p) H2) : CL K (gName j) tt te vs σ (.ref a) H Q :=
  ⟨a, rfl, ⟨xs, hx⟩, z_CW (X := fun i => xs.getD i .non) (walk_list.mono (fun _ h => h) (fun i H x H' _ _ y => ⟨y.1, by rw [List.getD_eq_getElem?_getD, y.2] <;> rfl⟩)) hz (fun _ e => ex_l e hx) f v hw
    (fun i H' hi e => ht i _ H' hi (by rw [List.getD_eq_getElem?_getD, List.getElem?_eq_getElem hi] <;> rfl) e) (fun i H' hi e hf => he i _ H' hi (by rw [List.getD_eq_getElem?_getD, List.getElem?_eq_getElem hi] <;> rfl) e hf) q⟩
theorem z_CR1 {m : Int} (hn : 0 ≤ m ∧ m ≤ 40000) (f : Nat → Bool) (v : Nat → V) (hw : ∀ x, wipe ((wipe σ vs).set j (some x)) vs = wipe σ vs)
    (ht : ∀ (i : Nat) H', i < m.toNat → Ex H H' → Evl.EvT tt ((wipe σ vs).set j (some (.int (i : Int)))) H' (f i)) (he : ∀ (i : Nat) H', i < m.toNat → Ex H H' → f i = true → Evl.Ev te ((wipe σ vs).set j (some (.int (i : Int)))) H' (v i))
    (q : ∀ p H2, H p = none → Ex H H2 → H2 p = some (.lst (Evl.given m.toNat f v)) → Q (.ref p) H2) : CR1 (gName j) tt te vs σ [.int m] H Q :=
  ⟨m, rfl, by omega, by omega, z_CW (X := fun i => .int (i : Int)) (walk_range.mono (fun _ h => h) (fun i H x H' _ _ y => ⟨y.1, by rw [y.2]; show V.int (0 + (i : Int)) = _; rw [Int.zero_add]⟩)) (by omega) (fun _ _ => trivial) f v hw ht he q⟩
theorem z_CRv {m : Nat} (hn : m ≤ 40000) (f : Nat → Bool) (v : Nat → V) (hw : ∀ x, wipe ((wipe σ vs).set j (some x)) vs = wipe σ vs)
    (ht : ∀ (i : Nat) H', i < m → Ex H H' → Evl.EvT tt ((wipe σ vs).set j (some (.int ((m - 1 - i : Nat) : Int)))) H' (f i)) (he : ∀ (i : Nat) H', i < m → Ex H H' → f i = true → Evl.Ev te ((wipe σ vs).set j (some (.int ((m - 1 - i : Nat) : Int)))) H' (v i))
    (q : ∀ p H2, H p = none → Ex H H2 → H2 p = some (.lst (Evl.given m f v)) → Q (.ref p) H2) : CRv (gName j) tt te vs σ (.int (m : Int)) H Q := by
  refine ⟨m, rfl, by decide, by decide, by omega, by omega, ?_⟩
  have e : ((m : Int) - 0).toNat = m := by omega
  rw [e]
  exact z_CW (X := fun i => .int ((m - 1 - i : Nat) : Int)) (walk_rangeC.mono (fun _ h => h) (fun i H x H' hi _ y => ⟨y.1, by
    rw [y.2]
    show V.int (0 + (m : Int) - 1 + (i : Int) * -1) = _
    congr 1
    omega⟩)) hn (fun _ _ => trivial) f v hw ht he q
theorem z_CS {z : Str} (hz : z.cps.size ≤ 40000) (f : Nat → Bool) (v : Nat → V) (hw : ∀ x, wipe ((wipe σ vs).set j (some x)) vs = wipe σ vs)
    (ht : ∀ i (c : Nat) H', i < z.cps.size → z.cps[i]? = some c → Ex H H' → Evl.EvT tt ((wipe σ vs).set j (some (.str ⟨#[c]⟩))) H' (f i)) (he : ∀ i (c : Nat) H', i < z.cps.size → z.cps[i]? = some c → Ex H H' → f i = true → Evl.Ev te ((wipe σ vs).set j (some (.str ⟨#[c]⟩))) H' (v i))
    (q : ∀ p H2, H p = none → Ex H H2 → H2 p = some (.lst (Evl.given z.cps.size f v)) → Q (.ref p) H2) : CS (gName j) tt te vs σ (.str z) H Q :=
  ⟨z, rfl, z_CW (X := fun i => .str ⟨#[z.cps.getD i 0]⟩) (walk_str.mono (fun _ h => h) (fun i H x H' _ _ y => by
      obtain ⟨e, c, e2, e3⟩ := y
      refine ⟨e, ?_⟩
      rw [e3]; congr 2; simp [Array.getD_eq_getD_getElem?, e2])) hz (fun _ _ => trivial) f v hw
    (fun i H' hi e => ht i _ H' hi (by simp [hi]) e) (fun i H' hi e hf => he i _ H' hi (by simp [hi]) e hf) q⟩
end
end Z
/-! ### data without truths: == is = -/
namespace Z
open PySem PySem.Spec PyProof.Rows L2
mutual
def cl : PyData → Bool
  | .none => true
  | .int _ => true
  | .str x => PyData.canLay0 (.str x)
  | .list xs => clAll xs
  | .tuple xs => clAll xs
  | .bool _ => false
  | .dict _ => false
def clAll : List PyData → Bool
  | [] => true
  | x :: xs => cl x && clAll xs
end
mutual
theorem cl_lay : ∀ d, cl d = true → d.canLay0 = true
  | .none, _ => rfl
  | .int _, _ => rfl
  | .str _, h => h
  | .list xs, h => clAll_lay xs h
  | .tuple xs, h => clAll_lay xs h
  | .bool _, h => by cases h
  | .dict _, h => by cases h
theorem clAll_lay : ∀ xs, clAll xs = true → PyData.canLayAll0 xs = true
  | [], _ => rfl
  | x :: xs, h => by
    have h' := Bool.and_eq_true_iff.mp (show (cl x && clAll xs) = true from h)
    show (x.canLay0 && PyData.canLayAll0 xs) = true
    rw [cl_lay x h'.1, clAll_lay xs h'.2] <;> rfl
end
mutual
theorem eqv_cl : ∀ d e : PyData, cl d = true → cl e = true → PyData.eqv d e = true → d = e
  | .none, e, _, he, h => by cases e <;> first | rfl | cases h
  | .int i, e, _, he, h => by
    cases e with
    | int j => rw [eq_of_beq (show (i == j) = true from h)]
    | bool _ => cases he
    | _ => cases h
  | .str x, e, _, he, h => by
    cases e with
    | str y => rw [eq_of_beq (show (x == y) = true from h)]
    | _ => cases h
  | .list xs, e, hd, he, h => by
    cases e with
    | list ys => rw [eqvAll_cl xs ys hd he h]
    | _ => cases h
  | .tuple xs, e, hd, he, h => by
    cases e with
    | tuple ys => rw [eqvAll_cl xs ys hd he h]
    | _ => cases h
  | .bool _, _, hd, _, _ => by cases hd
  | .dict _, _, hd, _, _ => by cases hd
theorem eqvAll_cl : ∀ xs ys : List PyData, clAll xs = true → clAll ys = true → PyData.eqvAll xs ys = true → xs = ys
  | [], [], _, _, _ => rfl
  | [], _ :: _, _, _, h => by cases h
  | _ :: _, [], _, _, h => by cases h
  | x :: xs, y :: ys, hd, he, h => by
    have h1 := Bool.and_eq_true_iff.mp (show (cl x && clAll xs) = true from hd)
    have h2 := Bool.and_eq_true_iff.mp (show (cl y && clAll ys) = true from he)
    have h3 := Bool.and_eq_true_iff.mp (show (PyData.eqv x y && PyData.eqvAll xs ys) = true from h)
    rw [eqv_cl x y h1.1 h2.1 h3.1, eqvAll_cl xs ys h1.2 h2.2 h3.2]
end
theorem eqv_iff {d e : PyData} (hd : cl d = true) (he : cl e = true) : PyData.eqv d e = true ↔ d = e :=
  ⟨eqv_cl d e hd he, fun h => by
    rw [h]
    exact SeqAt.eqv_refl e (cl_lay e he)⟩
theorem shaped_cl {d : PyData} (hd : cl d = true) (h : d.depth ≤ 64) : SeqAt.shaped d = true := Bool.and_eq_true_iff.mpr ⟨cl_lay d hd, decide_eq_true h⟩
section
variable {K : PySem.W.Frag} {H : Hp} {Q : VK} {x y : V} {d e : PyData}
/-- == over such data -/
theorem z_eqD {b : Bool} (hx : Dp K H x d) (hy : Dp K H y e) (cd : cl d = true) (ce : cl e = true) (dd : d.depth ≤ 64) (de : e.depth ≤ 64) (hb : b = true ↔ d = e) (q : Q (.bl b) H) : rEqD K x y H Q := by
  refine ⟨d, e, hx, hy, shaped_cl cd dd, shaped_cl ce de, ?_⟩
  have e2 : PyData.eqv d e = b := by
    have h := eqv_iff cd ce
    cases hb2 : PyData.eqv d e with
    | true => exact (hb.mpr (h.mp hb2)).symm
    | false =>
      cases b with
      | false => rfl
      | true => exact absurd (h.mpr (hb.mp rfl)) (by rw [hb2]; decide)
  rw [e2]
  exact q
theorem z_neD {b : Bool} (hx : Dp K H x d) (hy : Dp K H y e) (cd : cl d = true) (ce : cl e = true) (dd : d.depth ≤ 64) (de : e.depth ≤ 64) (hb : b = true ↔ d = e) (q : Q (.bl (!b)) H) : rNeD K x y H Q := by
  refine ⟨d, e, hx, hy, shaped_cl cd dd, shaped_cl ce de, ?_⟩
  have e2 : PyData.eqv d e = b := by
    have h := eqv_iff cd ce
    cases hb2 : PyData.eqv d e with
    | true => exact (hb.mpr (h.mp hb2)).symm
    | false =>
      cases b with
      | false => rfl
      | true => exact absurd (h.mpr (hb.mp rfl)) (by rw [hb2]; decide)
  rw [e2]
  exact q
theorem dp_ints : ∀ l : List Int, DpAll K H (l.map V.int) (l.map PyData.int)
  | [] => .nil
  | i :: l => .cons (.int i) (dp_ints l)
theorem cl_ints : ∀ l : List Int, clAll (l.map PyData.int) = true
  | [] => rfl
  | _ :: l => cl_ints l
theorem depth_ints : ∀ l : List Int, PyData.depthAll (l.map PyData.int) = 0
  | [] => rfl
  | i :: l => by
    show max 0 (PyData.depthAll (l.map PyData.int)) = 0
    rw [depth_ints l] <;> rfl
theorem ints_inj {l m : List Int} (h : l.map PyData.int = m.map PyData.int) : l = m := by
  have e := congrArg (List.map fun d => match d with
    | PyData.int i => i
    | _ => 0) h
  rw [List.map_map, List.map_map] at e
  have f : ∀ l : List Int, List.map ((fun d => match d with
    | PyData.int i => i
    | _ => 0) ∘ PyData.int) l = l := fun l => by
    induction l with
    | nil => rfl
    | cons a l ih => rw [List.map_cons, ih] <;> rfl
  rw [f, f] at e
  exact e
theorem z_eqL {a c : Addr} {l m : List Int} {b : Bool} (hx : SqL K H a (l.map V.int)) (hy : SqL K H c (m.map V.int)) (hb : b = true ↔ l = m) (q : Q (.bl b) H) : rEqD K (.ref a) (.ref c) H Q :=
  z_eqD (.lst hx (dp_ints l)) (.lst hy (dp_ints m)) (cl_ints l) (cl_ints m) (by show PyData.depthAll _ + 1 ≤ 64; rw [depth_ints]; decide) (by show PyData.depthAll _ + 1 ≤ 64; rw [depth_ints]; decide)
    (hb.trans ⟨fun h => by rw [h], fun h => ints_inj (by injection h)⟩) q
end
end Z
/-! ### texts as lists of signs -/
namespace Z
open PySem PySem.Spec PyProof.Rows L2
open Evl (Ex ex_l ex_t ex_rd sq_of st_of fresh_back)
def S (l : List Nat) : Str := ⟨l.toArray⟩
theorem S_len (l : List Nat) : (S l).length = l.length := by
  show l.toArray.size = _
  simp
theorem S_size (l : List Nat) : (S l).cps.size = l.length := S_len l
theorem S_tl (l : List Nat) : (S l).cps.toList = l := by
  show l.toArray.toList = l
  simp
theorem S_of (s : Str) : s = S s.cps.toList := by
  cases s with
  | mk a => simp [S]
theorem S_app (l m : List Nat) : S l ++ S m = S (l ++ m) := by
  show (⟨l.toArray ++ m.toArray⟩ : Str) = ⟨(l ++ m).toArray⟩
  simp
theorem S_inj {l m : List Nat} (h : S l = S m) : l = m := by rw [← S_tl l, h, S_tl]
theorem S_iff {l m : List Nat} : S l = S m ↔ l = m := ⟨S_inj, fun h => by rw [h]⟩
theorem S_get (l : List Nat) (i : Nat) : (S l).cps[i]? = l[i]? := by
  show l.toArray[i]? = _
  simp
/-- a slice by places -/
def cutL (l : List Nat) (lo hi : Option Int) : List Nat := (l.drop (HT.sIx l.length 0 lo)).take (HT.sIx l.length l.length hi - HT.sIx l.length 0 lo)
theorem S_cut (l : List Nat) (lo hi : Option Int) : cutS (S l) lo hi = S (cutL l lo hi) := by
  show (⟨(((S l).cps.toList.drop (HT.sIx (S l).length 0 lo)).take (HT.sIx (S l).length (S l).length hi - HT.sIx (S l).length 0 lo)).toArray⟩ : Str) = _
  rw [S_tl, S_len] <;> rfl
theorem cutL_to (l : List Nat) (n : Nat) : cutL l none (some (n : Int)) = l.take n := by
  unfold cutL
  rw [HT.sIx_none, HT.sIx_nat, List.drop_zero, Nat.sub_zero]
  by_cases h : n ≤ l.length
  · rw [Nat.min_eq_left h]
  · rw [Nat.min_eq_right (by omega), List.take_length, List.take_of_length_le (by omega)]
theorem cutL_from (l : List Nat) (n : Nat) : cutL l (some (n : Int)) none = l.drop n := by
  unfold cutL
  rw [HT.sIx_none, HT.sIx_nat]
  by_cases h : n ≤ l.length
  · rw [Nat.min_eq_left h, List.take_of_length_le (by rw [List.length_drop]; omega)]
  · rw [Nat.min_eq_right (by omega), List.drop_eq_nil_of_le (Nat.le_refl _), List.drop_eq_nil_of_le (by omega), List.take_nil]
theorem cutL_mid (l : List Nat) (m n : Nat) : cutL l (some (m : Int)) (some (n : Int)) = (l.drop m).take (n - m) := by
  unfold cutL
  rw [HT.sIx_nat, HT.sIx_nat]
  by_cases h : m ≤ l.length
  · rw [Nat.min_eq_left h]
    by_cases h2 : n ≤ l.length
    · rw [Nat.min_eq_left h2]
    · rw [Nat.min_eq_right (by omega), List.take_of_length_le (by rw [List.length_drop]; omega), List.take_of_length_le (by rw [List.length_drop]; omega)]
  · rw [List.drop_eq_nil_of_le (by omega), List.drop_eq_nil_of_le (by omega), List.take_nil, List.take_nil]
theorem cutS_le (s : Str) (lo hi : Option Int) : (cutS s lo hi).length ≤ s.length := cutS_length s lo hi
theorem join_S (ls : List (List Nat)) : Txt.join (S []) (ls.map S) = S ls.flatten := by
  rw [TL.join_eq, S_of (Str.join _ _)]
  congr 1
  show TL.tl (Str.join (S []) (ls.map S)) = _
  rw [TL.tl_join]
  have e : TL.tl (S []) = [] := rfl
  have f : ∀ ls : List (List Nat), (ls.map S).map TL.tl = ls := fun ls => by
    rw [List.map_map]
    refine (List.map_congr_left (g := id) fun l _ => S_tl l).trans (List.map_id _)
  rw [e, f]
  have g : ∀ ls : List (List Nat), TL.joinL [] ls = ls.flatten := fun ls => by
    induction ls with
    | nil => rfl
    | cons a r ih =>
      cases r with
      | nil => simp [TL.joinL]
      | cons b r => simp [TL.joinL, ih] at *
  exact g ls
theorem txt_app_len (s z : Str) : (s ++ z).length = s.length + z.length := by
  show (s.cps ++ z.cps).size = _
  rw [Array.size_append] <;> rfl
theorem mul_len (s : Str) (n : Int) (hn : 0 ≤ n) : (Txt.mul s n).length ≤ s.length * n.toNat := by
  unfold Txt.mul
  by_cases h : n < 1
  · rw [if_pos h]
    exact Nat.zero_le _
  · rw [if_neg h]
    by_cases h2 : (n == 1 || s.length == 0) = true
    · rw [if_pos h2]
      exact Nat.le_mul_of_pos_right _ (by omega)
    · rw [if_neg h2]
      show ((List.replicate n.toNat s.cps).foldl (· ++ ·) #[]).size ≤ _
      have g : ∀ (k : Nat) (a : Array Nat), ((List.replicate k s.cps).foldl (· ++ ·) a).size = a.size + s.length * k := fun k => by
        induction k with
        | zero => intro a; simp
        | succ k ih =>
          intro a
          rw [List.replicate_succ, List.foldl_cons, ih, Array.size_append, Nat.mul_succ]
          show a.size + s.cps.size + s.length * k = a.size + (s.length * k + s.cps.size)
          omega
      rw [g]
      simp
theorem mul_ok (s : Str) (n : Int) (h0 : 0 ≤ n) (hn : n ≤ 1000) (hs : s.length ≤ 1000) : MulOk s n := by
  refine ⟨by rw [decide_eq_false (by omega), decide_eq_false (by omega)] <;> rfl, fun h _ => ?_, fun h _ => ?_⟩
  · have : (2 ^ 63 - 1) / 1000 ≤ (2 ^ 63 - 1 : Int) / n := by
      rw [Int.le_ediv_iff_mul_le (by omega)]
      have : (2 ^ 63 - 1 : Int) / 1000 * n ≤ (2 ^ 63 - 1) / 1000 * 1000 := Int.mul_le_mul_of_nonneg_left hn (by decide)
      exact Int.le_trans this (by decide)
    have e : ((2 ^ 63 - 1 : Int)) / 1000 = 9223372036854775 := by decide
    omega
  · have : s.length * n.toNat ≤ 1000 * 1000 := Nat.mul_le_mul hs (by omega)
    show decide (s.length * n.toNat > sizeLine) = false
    exact decide_eq_false (by rw [sizeLine_eq]; omega)
end Z
/-! ### a head's facts and one test more -/
namespace Z
open PySem PySem.Spec PyProof.Rows L2 He
def lookZ (fa : List Fa) (fn : List DefD) (ex : PySem.W.Frag → Bool) (n : Nat) (g : Addr → Option Obj) : AlD × Bool :=
  (obsD fa fn (frG g (asD g n)), ex (frG g (asD g n)))
def hookZ (fa : List Fa) (fn : List DefD) (ex : PySem.W.Frag → Bool) (n : Nat) : PySem.W.Hook where
  α := AlD × Bool
  obs := fun st => lookZ fa fn ex n st.heap.get?
  val := fun _ => (valD fn, true)
  says := fun _ hp => ∃ F : PySem.W.Frag, F.In hp ∧ SaysD fa fn F ∧ ex F = true
  of := fun _ _ eq => ⟨_, frG_in, congrArg Prod.fst eq, congrArg Prod.snd eq⟩
  keeps := fun _ _ _ ⟨F, hF, cF, xF⟩ kp => ⟨F, PySem.W.Frag.In.keeps hF kp, cF, xF⟩
theorem lookZ_eq {fa : List Fa} {fn : List DefD} {ex : PySem.W.Frag → Bool} {n : Nat} {g : Addr → Option Obj} {st : Shared} (hg : ∀ a, g a = st.heap.get? a) : lookZ fa fn ex n g = (hookZ fa fn ex n).obs st := by
  have e : g = st.heap.get? := funext hg
  subst e
  rfl
end Z
/-! ### data, an elder heap's -/
namespace Z
open PySem PySem.Spec PyProof.Rows L2
open Evl (Ex ex_l ex_t ex_rd sq_of st_of fresh_back)
mutual
theorem dp_mono {K : PySem.W.Frag} {H H' : Hp} (e : Ex H H') : ∀ {v : V} {d : PyData}, Dp K H v d → Dp K H' v d
  | _, _, .non => .non
  | _, _, .bl b => .bl b
  | _, _, .int i => .int i
  | _, _, .str x => .str x
  | _, _, .lst s a => .lst (ex_l e s) (dpAll_mono e a)
  | _, _, .tup s a => .tup (ex_t e s) (dpAll_mono e a)
theorem dpAll_mono {K : PySem.W.Frag} {H H' : Hp} (e : Ex H H') : ∀ {vs : List V} {ds : List PyData}, DpAll K H vs ds → DpAll K H' vs ds
  | _, _, .nil => .nil
  | _, _, .cons a r => .cons (dp_mono e a) (dpAll_mono e r)
end
theorem dpAll_app {K : PySem.W.Frag} {H : Hp} : ∀ {vs us : List V} {ds es : List PyData}, DpAll K H vs ds → DpAll K H us es → DpAll K H (vs ++ us) (ds ++ es)
  | _, _, _, _, .nil, b => b
  | _, _, _, _, .cons a r, b => .cons a (dpAll_app r b)
theorem dpAll_len {K : PySem.W.Frag} {H : Hp} : ∀ {vs : List V} {ds : List PyData}, DpAll K H vs ds → vs.length = ds.length
  | _, _, .nil => rfl
  | _, _, .cons _ r => by rw [List.length_cons, List.length_cons, dpAll_len r]
theorem dpAll_get {K : PySem.W.Frag} {H : Hp} : ∀ {vs : List V} {ds : List PyData} {i : Nat} {v : V}, DpAll K H vs ds → vs[i]? = some v → ∃ d, ds[i]? = some d ∧ Dp K H v d
  | _, _, _, _, .nil, h => by simp at h
  | _, _, 0, _, .cons a _, h => by
    cases h
    exact ⟨_, rfl, a⟩
  | _, _, i + 1, _, .cons _ r, h => dpAll_get (i := i) r h
theorem ty_tup {K : PySem.W.Frag} {H : Hp} {a : Addr} {xs : List V} (h : SqT K H a xs) : TyX K H (.ref a) (.type "tuple") := by
  rcases h with (h | ⟨o, h⟩) | ⟨o, its, n, h, hc, _⟩
  · exact .base (.tup h)
  · exact .fTuple h
  · exact .kTuple h hc
theorem ty_lst {K : PySem.W.Frag} {H : Hp} {a : Addr} {xs : List V} (h : SqL K H a xs) : TyX K H (.ref a) (.type "list") := by
  rcases h with (h | ⟨o, h⟩) | ⟨o, its, n, h, hc, _⟩
  · exact .base (.lst h)
  · exact .base (.frz h)
  · exact .kList h hc
/-- a new thing that bears data: I, what was known, grows to J -/
def RetD (K : PySem.W.Frag) (d : PyData) (I H : Hp) (Q : VK) : Prop :=
  ∀ v J H', Ex I J → Ex H H' → Ex J H' → (∀ a o, H a = some o → I a = none → J a = none) → Dp K J v d → Q v H'
/-- a new list of such things -/
def RetLD (K : PySem.W.Frag) (ds : List PyData) (H : Hp) (Q : VK) : Prop :=
  ∀ p xs H', H p = none → Ex H H' → H' p = some (.lst xs) → DpAll K H' xs ds → Q (.ref p) H'
/-- a new tuple over what is known -/
theorem RetD.tup {K : PySem.W.Frag} {ds : List PyData} {I H : Hp} {Q : VK} {p : Addr} {xs : List V} (q : RetD K (.tuple ds) I H Q) (e : Ex I H) (hp : H p = none) (h : DpAll K I xs ds) : Q (.ref p) (upd H p (.tup xs)) := by
  have ip : I p = none := fresh_back e hp
  refine q (.ref p) (upd I p (.tup xs)) _ (Ex.new ip) (Ex.new hp) (fun b o hb => ?_) (fun a o ha hI => ?_) (.tup (st_of upd_same) (dpAll_mono (Ex.new ip) h))
  · by_cases hbp : b = p
    · subst hbp
      rw [upd_same] at hb ⊢
      exact hb
    · rw [upd_ne hbp] at hb ⊢
      exact e b o hb
  · have ne : a ≠ p := fun z => by
      rw [z, hp] at ha
      cases ha
    rw [upd_ne ne]
    exact hI
end Z

set_option Elab.async false
set_option linter.all false
set_option maxRecDepth 100000
set_option maxHeartbeats 4000000
/-! Zc: methods and makings of own classes, in short steps. -/
namespace Z
open PySem PySem.Spec PyProof.Rows L2
/-- a method's text, as it stands behind the top -/
def DM (K : PySem.W.Frag) (C m qual : Str) (st : Stmt) : Prop := ∃ fd, FunD K m qual (defArgs st) (defBody st) (defScope st) [] [] (He.ma K (He.ga K C) m) fd
def inCls (st : Stmt) (j : Nat) : Stmt := match st with
  | .ClassDef (body := b) .. => b.getD j (.Pass ⟨0, 0, 0, 0⟩)
  | _ => .Pass ⟨0, 0, 0, 0⟩
structure CalM (P : Program) (w : World) (K : PySem.W.Frag) (mg : Str → Option Value) (base : Heap) (k : Nat) (C : Addr) (m : Str) (sp : Sp) : Prop where
  ex : ∃ (fd : FuncData) (ps : List Str), FnOk P w K mg base CX0 k (He.ma K C m) fd ps sp ∧ Cls K C ∧ Meth K C m (He.ma K C m) ∧ Binds K fd ps []
structure CalI (P : Program) (w : World) (K : PySem.W.Frag) (mg : Str → Option Value) (base : Heap) (k : Nat) (x : Str) (C : Addr) (sp : Sp) : Prop where
  ex : ∃ (fd : FuncData) (ps : List Str), FnOk P w K mg base CX0 k (He.ma K C "__init__") fd ps sp ∧ Mk K C (He.ma K C "__init__") ∧ mg x = some (.ref C) ∧ Binds K fd ps []
section
variable {P : Program} {w : World} {K : PySem.W.Frag} {mg : Str → Option Value} {base : Heap}
theorem fn_mk {C m qual : Str} {st : Stmt} {N ps : List Str} {k : Nat} {sp : Sp} {t : TS} (D : DM K C m qual st) (S : FnScope N ps (defScope st))
    (hb : ∀ (kV doc pm : Value) (an : Option Addr) (cdv ct : Value) (us : List Value), us.length = ps.length → bindArgs (PySem.W.fnOf m qual (defArgs st) (defBody st) (defScope st) .none kV doc pm an cdv ct) ⟨us, []⟩ = pure (ps.zip us))
    (len : ∀ vs H Q E, sp vs H Q E → vs.length = ps.length)
    (hd : ∀ (f : Addr) (cdv : Value) (A : Around) (outer : List Env) (s : Shared) (H : Hp) (E : XK), Room k (A.deeper (envOfC qual (defScope st) s.heap.objs.size f cdv)) → PSs (cxOf CX0 P w K mg base N qual (defScope st) f cdv A outer s H E).nox (defBody st) t)
    (hv : ∀ vs H Q E, sp vs H Q E → t { nx := fun _ H' => Q .non H', rt := Q } (start N vs) H) : ∃ fd, FnOk P w K mg base CX0 (k + 1) (He.ma K (He.ga K C) m) fd ps sp ∧ Binds K fd ps [] := by
  obtain ⟨fd, F⟩ := D
  exact ⟨fd, F.ok S len fun cdv A outer s H vs Q E hr h => ⟨t, PSs.nox (hd _ cdv A outer s H E hr), hv vs H Q E h⟩, F.bindsN hb⟩
theorem calM_mk {C m qual : Str} {st : Stmt} {N ps : List Str} {k : Nat} {sp : Sp} {t : TS} (c : Cls K (He.ga K C)) (me : Meth K (He.ga K C) m (He.ma K (He.ga K C) m)) (D : DM K C m qual st) (S : FnScope N ps (defScope st))
    (hb : ∀ (kV doc pm : Value) (an : Option Addr) (cdv ct : Value) (us : List Value), us.length = ps.length → bindArgs (PySem.W.fnOf m qual (defArgs st) (defBody st) (defScope st) .none kV doc pm an cdv ct) ⟨us, []⟩ = pure (ps.zip us))
    (len : ∀ vs H Q E, sp vs H Q E → vs.length = ps.length)
    (hd : ∀ (f : Addr) (cdv : Value) (A : Around) (outer : List Env) (s : Shared) (H : Hp) (E : XK), Room k (A.deeper (envOfC qual (defScope st) s.heap.objs.size f cdv)) → PSs (cxOf CX0 P w K mg base N qual (defScope st) f cdv A outer s H E).nox (defBody st) t)
    (hv : ∀ vs H Q E, sp vs H Q E → t { nx := fun _ H' => Q .non H', rt := Q } (start N vs) H) : CalM P w K mg base (k + 1) (He.ga K C) m sp := by
  obtain ⟨fd, F, b⟩ := fn_mk D S hb len hd hv
  exact ⟨fd, ps, F, c, me, b⟩
theorem calI_mk {C qual : Str} {st : Stmt} {N ps : List Str} {k : Nat} {sp : Sp} {t : TS} (M : Mk K (He.ga K C) (He.ma K (He.ga K C) "__init__")) (g : mg C = some (.ref (He.ga K C))) (D : DM K C "__init__" qual st) (S : FnScope N ps (defScope st))
    (hb : ∀ (kV doc pm : Value) (an : Option Addr) (cdv ct : Value) (us : List Value), us.length = ps.length → bindArgs (PySem.W.fnOf "__init__" qual (defArgs st) (defBody st) (defScope st) .none kV doc pm an cdv ct) ⟨us, []⟩ = pure (ps.zip us))
    (len : ∀ vs H Q E, sp vs H Q E → vs.length = ps.length)
    (hd : ∀ (f : Addr) (cdv : Value) (A : Around) (outer : List Env) (s : Shared) (H : Hp) (E : XK), Room k (A.deeper (envOfC qual (defScope st) s.heap.objs.size f cdv)) → PSs (cxOf CX0 P w K mg base N qual (defScope st) f cdv A outer s H E).nox (defBody st) t)
    (hv : ∀ vs H Q E, sp vs H Q E → t { nx := fun _ H' => Q .non H', rt := Q } (start N vs) H) : CalI P w K mg base (k + 1) C (He.ga K C) sp := by
  obtain ⟨fd, F, b⟩ := fn_mk D S hb len hd hv
  exact ⟨fd, ps, F, M, g, b⟩
end
section
variable {X : Cx} {k j : Nat} {x m : Str} {C : Addr} {sp : Sp} {p pos apos : Pos} {e o : Expr} {es : List Expr} {t : TA} {ta : TE}
theorem pe_m {pl : Sem Bool} (c : CalM X.prog X.w X.K X.mg X.base k C m sp) (hr : Room j X.A) (hk : k ≤ j) (he : PE X o ta) (ha : PA X (e :: es) t)
    (h1 : starEach (e :: es) X.env = (false, eval e X.env) :: starEach es X.env := by rfl) (h2 : (backTo pos (starEach es X.env)).any (·.1) = false := by rfl)
    (h3 : eval (.Call (.Attribute o m apos) (e :: es) [] pos) X.env = (eval o X.env >>= fun ov => standAt apos.atName >>= fun _ => holding [ov] (getMethod ov m pl) >>= fun gf => callWith pos gf.1 gf.2 (backTo pos (starEach (e :: es) X.env)) (backToKw pos (keywordEach [] X.env))) := by rfl) :
    PE X (.Call (.Attribute o m apos) (e :: es) [] pos) (tMeth C m sp [] E0 ta t) := by
  obtain ⟨fd, ps, F, hc, hm, b⟩ := c.ex
  exact pe_meth (pl := pl) he hc hm F (hr.mono hk) b .nil pass0 ha h1 h2 h3
theorem pe_m0 {pl : Sem Bool} (c : CalM X.prog X.w X.K X.mg X.base k C m sp) (hr : Room j X.A) (hk : k ≤ j) (he : PE X o ta)
    (h3 : eval (.Call (.Attribute o m apos) [] [] pos) X.env = (eval o X.env >>= fun ov => standAt apos.atName >>= fun _ => holding [ov] (getMethod ov m pl) >>= fun gf => callWith pos gf.1 gf.2 (backTo pos (starEach [] X.env)) (backToKw pos (keywordEach [] X.env))) := by rfl) :
    PE X (.Call (.Attribute o m apos) [] [] pos) (tMeth C m sp [] E0 ta tNil) := by
  obtain ⟨fd, ps, F, hc, hm, b⟩ := c.ex
  exact pe_meth0 (pl := pl) he hc hm F (hr.mono hk) b .nil pass0 h3
theorem pe_i (c : CalI X.prog X.w X.K X.mg X.base k x C sp) (hr : Room j X.A) (hk : k + 1 ≤ j) (hg : Gl X x) (ha : PA X (e :: es) t)
    (hdb : (x == ("__debug__" : Str)) = false := by decide) (h1 : starEach (e :: es) X.env = (false, eval e X.env) :: starEach es X.env := by rfl) (h2 : (backTo pos (starEach es X.env)).any (·.1) = false := by rfl) :
    PE X (.Call (.Name x p) (e :: es) [] pos) (tMake C sp [] E0 t) := by
  obtain ⟨fd, ps, F, M, hm, b⟩ := c.ex
  exact pe_make M F (hr.mono hk) hg hm b .nil pass0 ha hdb h1 h2
theorem pe_i0 (c : CalI X.prog X.w X.K X.mg X.base k x C sp) (hr : Room j X.A) (hk : k + 1 ≤ j) (hg : Gl X x) (hdb : (x == ("__debug__" : Str)) = false := by decide) :
    PE X (.Call (.Name x p) [] [] pos) (tMake C sp [] E0 tNil) := by
  obtain ⟨fd, ps, F, M, hm, b⟩ := c.ex
  exact pe_make0 M F (hr.mono hk) hg hm b .nil pass0 hdb
end
/-! ### steps -/
def FldR (K : PySem.W.Frag) (f : Str) (x : V) (H : Hp) (Q : VK) : Prop := ∃ a C dx fs v, x = .ref a ∧ H a = some (.ins C dx fs) ∧ Cls K C ∧ NoAttr K C f ∧ fs.lookup f = some v ∧ Q v H
def FldW (K : PySem.W.Frag) (f : Str) (y x : V) (σ : L2.St) (H : Hp) (D : Ends) : Prop := ∃ a C dx fs, x = .ref a ∧ H a = some (.ins C dx fs) ∧ Cls K C ∧ NoAttr K C f ∧ fs.length < 1000 ∧ D.nx σ (upd H a (.ins C dx (putF f y fs)))
def MethR (C : Addr) (m : Str) (sp : Sp) (t : TA) (σ : L2.St) (Q : VK) (x : V) (H : Hp) : Prop := ∃ a dx fs, x = .ref a ∧ H a = some (.ins C dx fs) ∧ fs.lookup m = none ∧ t σ H fun vs H2 => sp (x :: (vs ++ [])) H2 Q E0
section
variable {K : PySem.W.Frag} {σ : L2.St} {H : Hp} {Q : VK} {D : Ends} {ta tv : TE} {t : TA} {f m : Str} {C a dx : Addr} {fs : List (Str × V)} {v x : V} {sp : Sp}
theorem z_fld (q : ta σ H fun x H1 => FldR K f x H1 Q) : tFld K ta f σ H Q := q
theorem z_fldR (h : H a = some (.ins C dx fs)) (c : Cls K C) (n : NoAttr K C f) (e : fs.lookup f = some v) (q : Q v H) : FldR K f (.ref a) H Q := ⟨a, C, dx, fs, v, rfl, h, c, n, e, q⟩
theorem z_sfld (q : tv σ H fun y H1 => ta σ H1 fun x H2 => FldW K f y x σ H2 D) : sFld K ta tv f D σ H := q
theorem z_fldW (h : H a = some (.ins C dx fs)) (c : Cls K C) (n : NoAttr K C f) (l : fs.length < 1000) (q : D.nx σ (upd H a (.ins C dx (putF f v fs)))) : FldW K f v (.ref a) σ H D := ⟨a, C, dx, fs, rfl, h, c, n, l, q⟩
theorem z_meth (q : ta σ H fun x H1 => MethR C m sp t σ Q x H1) : tMeth C m sp [] E0 ta t σ H Q := q
theorem z_methR (h : H a = some (.ins C dx fs)) (e : fs.lookup m = none) (q : t σ H fun vs H2 => sp (.ref a :: (vs ++ [])) H2 Q E0) : MethR C m sp t σ Q (.ref a) H := ⟨a, dx, fs, rfl, h, e, q⟩
theorem z_make (q : t σ H fun vs H1 => ∀ x dx, H1 x = none → H1 dx = none → dx ≠ x → sp (.ref x :: (vs ++ [])) (upd (upd H1 dx (.own x)) x (.ins C dx [])) (fun v H2 => v = .non ∧ Q (.ref x) H2) E0) : tMake C sp [] E0 t σ H Q := q
end
/-! ### more short steps -/
abbrev cTupOf (K : PySem.W.Frag) : List V → Hp → VK → Prop := fun xs H Q => ∃ p ys, xs = [.ref p] ∧ ((SqL K H p ys ∧ ∀ l, H l = none → Q (.ref l) (upd H l (.tup ys))) ∨ (SqT K H p ys ∧ Q (.ref p) H))
abbrev cListOf (K : PySem.W.Frag) : List V → Hp → VK → Prop := fun xs H Q => ∃ p ys, xs = [.ref p] ∧ (SqL K H p ys ∨ SqT K H p ys) ∧ ∀ l, H l = none → Q (.ref l) (upd H l (.lst ys))
theorem at_some {α : Type} {l : List α} {i : Int} (h0 : 0 ≤ i) (h : i < l.length) : ∃ c, atI l i = some c ∧ c ∈ l := by
  obtain ⟨j, rfl⟩ := Int.eq_ofNat_of_zero_le h0
  have hj : j < l.length := Int.ofNat_lt.mp h
  exact ⟨l[j], atI_nat (List.getElem?_eq_getElem hj), List.getElem_mem hj⟩
/-- xs != [], xs == [], of lists of any things that are data without truths -/
theorem z_neNil {K : PySem.W.Frag} {H : Hp} {Q : VK} {a c : Addr} {xs : List V} {ds : List PyData} (hx : SqL K H a xs) (hd : DpAll K H xs ds) (hc : SqL K H c []) (cl : clAll ds = true) (dd : PyData.depthAll ds + 1 ≤ 64) (q : Q (.bl (!xs.isEmpty)) H) : rNeD K (.ref a) (.ref c) H Q := by
  refine z_neD (b := xs.isEmpty) (.lst hx hd) (.lst hc .nil) cl rfl dd (by decide) ?_ q
  cases hd with
  | nil => exact ⟨fun _ => rfl, fun _ => rfl⟩
  | cons a r => exact ⟨fun h => (by cases h), fun h => (by cases h)⟩
section
variable {σ : L2.St} {H : Hp} {D : Ends} {ta : TA} {i j : Nat} {to ti : TE} {t : TSet} {v : V} {QS : L2.St → Hp → Prop}
theorem z_par (q : ta σ H fun vs H1 => ∃ v w, vs = [v, w] ∧ D.nx ((σ.set i (some v)).set j (some w)) H1) : tPar i j ta D σ H := q
theorem z_gsub (q : to σ H fun o H1 => ti σ H1 fun i H2 => t o i v H2 fun H3 => QS σ H3) : gSub to ti t v σ H QS := q
end
end Z

set_option Elab.async false
set_option linter.all false
set_option maxRecDepth 100000
set_option maxHeartbeats 4000000
/-! Zs: sorted and < of tuples of whole numbers, of any lengths but nought. -/
namespace ZS
open PySem PySem.Spec PyProof.Rows L2
/-- the first place that differs tells; a beginning is less -/
def lexL : List Int → List Int → Bool
  | [], [] => false
  | [], _ :: _ => true
  | _ :: _, [] => false
  | x :: xs, y :: ys => if x = y then lexL xs ys else decide (x < y)
theorem lexL_cons (x y : Int) (xs ys : List Int) : lexL (x :: xs) (y :: ys) = if x = y then lexL xs ys else decide (x < y) := rfl
theorem lexL_asym : ∀ a b : List Int, lexL a b = true → lexL b a = false
  | [], [], h => by cases h
  | [], _ :: _, _ => rfl
  | _ :: _, [], h => by cases h
  | x :: xs, y :: ys, h => by
    rw [lexL_cons] at h ⊢
    by_cases e : x = y
    · rw [if_pos e] at h
      rw [if_pos e.symm]
      exact lexL_asym xs ys h
    · rw [if_neg e] at h
      rw [if_neg fun z => e z.symm]
      have := of_decide_eq_true h
      exact decide_eq_false (by omega)
theorem lexL_tr : ∀ a b c : List Int, lexL b a = false → lexL c b = false → lexL c a = false
  | [], [], [], _, _ => rfl
  | [], [], _ :: _, _, h => h
  | [], _ :: _, [], _, h => by cases h
  | [], _ :: _, _ :: _, _, _ => rfl
  | _ :: _, [], _, h, _ => by cases h
  | _ :: _, _ :: _, [], _, h => by cases h
  | x :: xs, y :: ys, z :: zs, h1, h2 => by
    rw [lexL_cons] at h1 h2 ⊢
    by_cases e1 : y = x
    · rw [if_pos e1] at h1
      by_cases e2 : z = y
      · rw [if_pos e2] at h2
        rw [if_pos (e2.trans e1)]
        exact lexL_tr xs ys zs h1 h2
      · rw [if_neg e2] at h2
        rw [if_neg fun w => e2 (w.trans e1.symm), ← e1]
        exact h2
    · rw [if_neg e1] at h1
      have g1 := of_decide_eq_false h1
      by_cases e2 : z = y
      · rw [e2, if_neg e1]
        exact h1
      · rw [if_neg e2] at h2
        have g2 := of_decide_eq_false h2
        rw [if_neg (by omega)]
        exact decide_eq_false (by omega)
/-- neither is less: they are the same -/
theorem lexL_eq : ∀ a b : List Int, lexL a b = false → lexL b a = false → a = b
  | [], [], _, _ => rfl
  | [], _ :: _, h, _ => by cases h
  | _ :: _, [], _, h => by cases h
  | x :: xs, y :: ys, h1, h2 => by
    rw [lexL_cons] at h1 h2
    by_cases e : x = y
    · rw [if_pos e] at h1
      rw [if_pos e.symm] at h2
      rw [e, lexL_eq xs ys h1 h2]
    · rw [if_neg e] at h1
      rw [if_neg fun z => e z.symm] at h2
      have g1 := of_decide_eq_false h1
      have g2 := of_decide_eq_false h2
      omega
theorem swo {β : Type} (k : β → List Int) : SrtO.Swo fun v u => lexL (k v) (k u) := ⟨fun _ _ h => lexL_asym _ _ h, fun _ _ _ h1 h2 => lexL_tr _ _ _ h1 h2⟩
/-- a tuple of the heap with these numbers -/
def TupI (h : Heap) (v : Value) (l : List Int) : Prop := ∃ (a : Addr) (ob : Obj) (us : List Value) (n : Nat), v = .ref a ∧ h.get? a = some ob ∧ ob.cls = .type "tuple" ∧ ob.data = .seq us.toArray n ∧ IntsAre us l
theorem TupI.more {h h' : Heap} {v : Value} {l : List Int} (t : TupI h v l) (kp : ∀ b ob, h.get? b = some ob → ob.cls = .type "tuple" → h'.get? b = some ob) : TupI h' v l := by
  obtain ⟨a, ob, us, n, e, g, c, d, i⟩ := t
  exact ⟨a, ob, us, n, e, kp _ _ g c, c, d, i⟩
section
variable {prog : Program} {w : World} {A : Around} {E : Value → Shared → Prop} {s : Shared}
theorem lex_goes {b fin : Bool} {Q : Bool → Shared → Prop} : ∀ (us : List Value) (l : List Int) (vs : List Value) (m : List Int) (i : Nat), IntsAre us l → IntsAre vs m → fin = decide (us.length < vs.length) → Q (lexL l m) s → PySem.W.KatLex prog w A b fin Q (us.zip vs) i s
  | _, _, _, _, i, .nil, .nil, hf, q => by
    subst hf
    exact q
  | _, _, _, _, i, .nil, .cons y u r, hf, q => by
    subst hf
    exact q
  | _, _, _, _, i, .cons x t r, .nil, hf, q => by
    subst hf
    exact q
  | _, _, _, _, i, .cons (vs := us) (ns := l) x t r, .cons (vs := vs) (ns := m) y u r2, hf, q => by
    refine PySem.W.kat_cons (SeqAt.EqAt.int_int x t y u prog w _ _ ?_)
    refine PySem.W.kat_go (fun e => ?_) (fun e => ?_)
    · have xy : x = y := by simpa using e
      rw [lexL_cons, if_pos xy] at q
      refine PySem.W.kat_yes (lex_goes us l vs m (i + 1) r r2 ?_ q)
      rw [hf]
      simp
    · have xy : ¬ x = y := by simpa using e
      rw [lexL_cons, if_neg xy] at q
      cases hb : (b && i == 0) with
      | true =>
        refine PySem.W.kat_no ?_
        rw [hb]
        exact PyProof.Rows.oneLt_int q
      | false =>
        refine PySem.W.kat_no ?_
        rw [hb]
        exact PySem.W.kat_one _ _ (PyProof.Rows.lt_int q)
theorem tup_cmp {vs : List Value} {k : Value → List Int} (hp : ∀ v ∈ vs, TupI s.heap v (k v)) : SrtO.Cmp prog w A s (tuples' true) (fun p => p.1 ∈ vs) (SrtO.lt2 fun v u => lexL (k v) (k u)) := by
  intro p q hm hm'
  obtain ⟨a, ob, us, n, e, g, c, d, i⟩ := hp _ hm
  obtain ⟨a', ob', us', n', e', g', c', d', i'⟩ := hp _ hm'
  show wpAny _ _ (keyLt' _ p.1 q.1) _ _ _
  have fin : (fun r s' => s' = s ∧ r = SrtO.lt2 (fun v u => lexL (k v) (k u)) p q : Bool → Shared → Prop) (lexL (k p.1) (k q.1)) s := ⟨rfl, rfl⟩
  rw [e, e']
  refine PySem.W.kat_lt g d g' d' ?_
  exact lex_goes us _ us' _ 0 i i' (by simp) fin
theorem heads {h : Heap} {k : Value → List Int} : ∀ vs : List Value, (∀ v ∈ vs, TupI h v (k v) ∧ k v ≠ []) → ∃ fs, PySem.W.KatTups h vs fs ∧ fs.length = vs.length ∧ ∀ f ∈ fs, ∃ i t, f = Value.int i t
  | [], _ => ⟨[], .nil, rfl, fun _ hm => absurd hm (by simp)⟩
  | v :: vs, hp => by
    obtain ⟨fs, h1, h2, h3⟩ := heads vs fun u hu => hp u (List.mem_cons_of_mem _ hu)
    obtain ⟨⟨a, ob, us, n, e, g, c, d, i⟩, ne⟩ := hp v List.mem_cons_self
    generalize k v = l at i ne
    cases i with
    | nil => exact absurd rfl ne
    | cons x t r =>
      rw [e]
      refine ⟨.int x t :: fs, .cons g c d rfl h1, congrArg (· + 1) h2, fun f hf => ?_⟩
      rcases List.mem_cons.mp hf with hf | hf
      · exact ⟨x, t, hf⟩
      · exact h3 f hf
theorem can_sort {a : Addr} {vs : List Value} {k : Value → List Int} (h0 : 0 < vs.length) (hp : ∀ v ∈ vs, TupI s.heap v (k v) ∧ k v ≠ []) (ha : ∀ ob, s.heap.get? a = some ob → ob.cls ≠ .type "tuple") : SrtO.SortableO prog w A s a vs fun v u => lexL (k v) (k u) := by
  intro h' kp
  have hp' : ∀ v ∈ vs, TupI h' v (k v) ∧ k v ≠ [] := fun v hv => ⟨(hp v hv).1.more fun b ob g c => kp b ob (fun z => ha ob (by rw [← z]; exact g) c) g, (hp v hv).2⟩
  obtain ⟨fs, h1, h2, h3⟩ := heads vs hp'
  refine ⟨tuples' true, fun Q E hq => ?_, tup_cmp fun v hv => (hp' v hv).1⟩
  refine PySem.W.kat_kind (T := .type "int") h1 (h2.symm ▸ h0) (fun f hf => ?_) rfl ?_
  · obtain ⟨i, t, e⟩ := h3 f hf
    rw [e]
    exact PySem.W.Looks.now
  · have ne : (Value.type "int" != Value.type "tuple") = true := by decide +kernel
    rw [ne]
    exact hq
end
/-- sorted of a list of such tuples: a new list -/
def rSortedTI (K : PySem.W.Frag) : List V → Hp → VK → Prop := fun vs H Q => ∃ (a : Addr) (xs : List V) (k : V → List Int), vs = [V.ref a] ∧ SqL K H a xs ∧ (∀ x ∈ xs, ∃ t, x = V.ref t ∧ H t = some (.tup ((k x).map V.int)) ∧ k x ≠ []) ∧
  ∀ ys p, SrtO.Srtd (fun x y => lexL (k x) (k y)) ys → ys.Perm xs → H p = none → Q (.ref p) (upd H p (.lst ys))
theorem cr_sortedTI {X : Cx} : CallR X (.builtin "sorted") (rSortedTI X.K) := by
  intro pins s σ H vs us Q I r h
  obtain ⟨a, xs, k, rfl, hs, hx, q⟩ := h
  obtain ⟨its, rv, hl, hz⟩ := I.list hs
  obtain ⟨u, rfl, ru⟩ := vals1 r
  cases ru
  have back := refs_back rv fun x m => (hx x m).imp fun t h => h.1
  have tups : ∀ v ∈ its, TupI s.heap v (k (backV v)) ∧ k (backV v) ≠ [] := fun v hv => by
    obtain ⟨t, rfl⟩ := back.2 v hv
    have hm : V.ref t ∈ xs := by
      rw [back.1]
      exact List.mem_map.mpr ⟨_, hv, rfl⟩
    obtain ⟨t', e, ht, ne⟩ := hx _ hm
    cases e
    obtain ⟨_, us2, r2, ob, g, c, n, d⟩ := I.hok _ _ ht
    exact ⟨⟨t, ob, us2, n, rfl, g, c, d, Vals.ints r2⟩, ne⟩
  refine SrtO.sorted_ord (swo fun v => k (backV v)) hl.isList (rv.length ▸ hz) (fun h2 h1 a1 ha1 kp => ?_) fun out so st => ?_
  · refine can_sort (s := { s with heap := h1 }) (Nat.lt_of_lt_of_le (by decide) h2) (fun v hv => ⟨(tups v hv).1.more fun b ob g _ => (kp b ob g).2, (tups v hv).2⟩) fun ob g c => ?_
    have e : some ob = some (seqObj "list" its.toArray 0) := g.symm.trans ha1
    cases e
    exact absurd (Value.type.inj c) (by decide)
  · have outs : ∀ u ∈ out, ∃ b, u = Value.ref b := fun u hu => back.2 u (st.perm.mem_iff.mp hu)
    obtain ⟨n, at_⟩ := sortedAll_at s.heap its out.toArray
    have pm : (out.map backV).Perm xs := by
      rw [back.1]
      exact st.perm.map backV
    have nw : s.heap.objs.size ≤ s.heap.objs.size + 1 := Nat.le_succ _
    have sz : (out.map backV).length ≤ sizeLine := by
      rw [pm.length_eq]
      exact hz
    have new : ObjOk X.prog X.w (upd H (s.heap.objs.size + 1) (.lst (out.map backV))) (sortedAll s.heap its out.toArray) (s.heap.objs.size + 1) (.lst (out.map backV)) := ⟨sz, out, n, vals_back outs, at_⟩
    exact ⟨.ref (s.heap.objs.size + 1), _, I.laid (t' := s.toks) (fun b ob g => sortedAll_old g) nw new, rfl, q _ _ (SrtO.srtd_map so) pm (I.hok.fresh nw)⟩
/-- t < u -/
def rLtT (K : PySem.W.Frag) : R2 := fun x y H Q => ∃ (a b : Addr) (l m : List Int), x = .ref a ∧ y = .ref b ∧ SqT K H a (l.map V.int) ∧ SqT K H b (m.map V.int) ∧ Q (.bl (lexL l m)) H
theorem lexAt_L : ∀ (l m : List Int) (e r : Nat → Bool) (i : Nat), (∀ j, j < min l.length m.length → e (i + j) = decide (l.getD j 0 = m.getD j 0)) → (∀ j, j < min l.length m.length → r (i + j) = decide (l.getD j 0 < m.getD j 0)) → Ob.lexAt e r (decide (l.length < m.length)) i (min l.length m.length) = lexL l m
  | [], [], _, _, _, _, _ => rfl
  | [], _ :: _, _, _, _, _, _ => by simp [Ob.lexAt, lexL]
  | _ :: _, [], _, _, _, _, _ => by simp [Ob.lexAt, lexL]
  | x :: xs, y :: ys, e, r, i, he, hr => by
    have e0 : min (x :: xs).length (y :: ys).length = min xs.length ys.length + 1 := by
      simp only [List.length_cons]
      omega
    rw [e0] at he hr ⊢
    rw [Ob.lexAt_succ, lexL_cons]
    have h0 : e i = decide (x = y) := he 0 (by omega)
    have h1 : r i = decide (x < y) := hr 0 (by omega)
    by_cases xy : x = y
    · rw [h0, decide_eq_true xy, if_pos rfl, if_pos xy]
      have := lexAt_L xs ys e r (i + 1) (fun j hj => by have := he (j + 1) (by omega); rw [show i + 1 + j = i + (j + 1) by omega, this] <;> rfl) (fun j hj => by have := hr (j + 1) (by omega); rw [show i + 1 + j = i + (j + 1) by omega, this] <;> rfl)
      rw [← this]
      simp
    · rw [h0, decide_eq_false xy, if_neg Bool.false_ne_true, if_neg xy, h1]
theorem op_ltT {X : Cx} (hu : X.A.units < cLine) : OpR X (compareOp .Lt) (rLtT X.K) := by
  intro pins s σ H x y v u Q I rx ry h
  obtain ⟨a, b, l, m, rfl, rfl, ha, hb, q⟩ := h
  cases rx
  cases ry
  obtain ⟨us, r1, p1, _⟩ := I.tuple ha
  obtain ⟨vs, r2, p2, _⟩ := I.tuple hb
  have i1 := Vals.ints r1
  have i2 := Vals.ints r2
  have n1 : us.toArray.size = l.length := List.size_toArray.trans i1.length
  have n2 : vs.toArray.size = m.length := List.size_toArray.trans i2.length
  have g1 : ∀ j (hj : j < us.toArray.size), ∃ t, us.toArray[j] = .int (l.getD j 0) t := fun j hj => PyProof.Rows.IntsAre.int_at i1 _ _ (by simp [List.getElem?_eq_getElem (show j < us.length by simpa using hj)])
  have g2 : ∀ j (hj : j < vs.toArray.size), ∃ t, vs.toArray[j] = .int (m.getD j 0) t := fun j hj => PyProof.Rows.IntsAre.int_at i2 _ _ (by simp [List.getElem?_eq_getElem (show j < vs.length by simpa using hj)])
  have R := Ob.RcOp.tuples_lt (A := X.A) (s := s) (e := fun j => l.getD j 0 == m.getD j 0) (r := fun j => decide (l.getD j 0 < m.getD j 0)) p1 p2 hu (fun j h1 h2 => by
    obtain ⟨t, et⟩ := g1 j h1
    obtain ⟨t', et'⟩ := g2 j h2
    rw [et, et']
    exact SeqAt.EqAt.int_int _ _ _ _) (fun j h1 h2 _ => by
    obtain ⟨t, et⟩ := g1 j h1
    obtain ⟨t', et'⟩ := g2 j h2
    rw [et, et']
    exact Ob.RcOp.lt_int _ _ _ _)
  rw [n1, n2, lexAt_L l m _ _ 0 (fun j _ => by rw [Nat.zero_add]; rfl) (fun j _ => by rw [Nat.zero_add])] at R
  exact R X.prog X.w X.xe (EP X pins σ Q) ⟨.bl _, H, I, rfl, q⟩
end ZS

set_option Elab.async false
set_option linter.all false
set_option maxRecDepth 100000
set_option maxHeartbeats 4000000
/-! Zh: heaps of things told by <: the mathematics of a hole that goes down and up. -/
namespace ZH
section
variable {α : Type} {lt : α → α → Bool} {f : Nat → α} {n p : Nat}
def Hpd (lt : α → α → Bool) (f : Nat → α) (n : Nat) : Prop := ∀ i, 0 < i → i < n → lt (f i) (f ((i - 1) / 2)) = false
/-- all but what touches the hole; what stands beneath the hole goes with what stands above it -/
def Hol (lt : α → α → Bool) (f : Nat → α) (n p : Nat) : Prop := (∀ i, 0 < i → i < n → i ≠ p → (i - 1) / 2 ≠ p → lt (f i) (f ((i - 1) / 2)) = false) ∧ ∀ c, 0 < c → c < n → (c - 1) / 2 = p → 0 < p → lt (f c) (f ((p - 1) / 2)) = false
def Kid (lt : α → α → Bool) (f : Nat → α) (n p : Nat) : Prop := ∀ c, 0 < c → c < n → (c - 1) / 2 = p → lt (f c) (f p) = false
def sw (f : Nat → α) (i j : Nat) : Nat → α := fun m => if m = j then f i else if m = i then f j else f m
theorem sw_j (i j : Nat) : sw f i j j = f i := if_pos rfl
theorem sw_i {i j : Nat} : sw f i j i = f j := by
  unfold sw
  by_cases h : i = j
  · rw [if_pos h, h]
  · rw [if_neg h, if_pos rfl]
theorem sw_o {i j m : Nat} (h1 : m ≠ j) (h2 : m ≠ i) : sw f i j m = f m := by
  unfold sw
  rw [if_neg h1, if_neg h2]
theorem hol_top (h : Hpd lt f n) : Hol lt f n 0 := ⟨fun i h0 h1 _ _ => h i h0 h1, fun _ _ _ _ h => absurd h (by omega)⟩
theorem hol_new (h : Hpd lt f n) (f' : Nat → α) (e : ∀ i, i < n → f' i = f i) : Hol lt f' (n + 1) n ∧ Kid lt f' (n + 1) n := by
  refine ⟨⟨fun i h0 h1 h2 h3 => ?_, fun c h0 h1 h2 h3 => ?_⟩, fun c h0 h1 h2 => ?_⟩
  · rw [e i (by omega), e _ (by omega)]
    exact h i h0 (by omega)
  · omega
  · omega
theorem hol_down (h : Hol lt f n p) {c : Nat} (c0 : 0 < c) (cn : c < n) (cp : (c - 1) / 2 = p) (m : ∀ d, 0 < d → d < n → (d - 1) / 2 = p → lt (f d) (f c) = false) : Hol lt (sw f c p) n c := by
  have cp' : p < c := by omega
  refine ⟨fun i h0 h1 h2 h3 => ?_, fun d h0 h1 h2 h3 => ?_⟩
  · by_cases e : i = p
    · rw [e, sw_j, sw_o (by omega) (by omega)]
      exact h.2 c c0 cn cp (by omega)
    · rw [sw_o e h2]
      by_cases e2 : (i - 1) / 2 = p
      · rw [e2, sw_j]
        exact m i h0 h1 e2
      · rw [sw_o e2 h3]
        exact h.1 i h0 h1 e e2
  · rw [cp, sw_j, sw_o (by omega) (by omega), ← h2]
    exact h.1 d h0 h1 (by omega) (by omega)
theorem hol_up (O : SrtO.Swo lt) (h : Hol lt f n p) (k : Kid lt f n p) (p0 : 0 < p) (pn : p < n) (l : lt (f p) (f ((p - 1) / 2)) = true) : Hol lt (sw f ((p - 1) / 2) p) n ((p - 1) / 2) ∧ Kid lt (sw f ((p - 1) / 2) p) n ((p - 1) / 2) := by
  generalize hq : (p - 1) / 2 = q at l
  have qp : q < p := by omega
  refine ⟨⟨fun i h0 h1 h2 h3 => ?_, fun c h0 h1 h2 h3 => ?_⟩, fun c h0 h1 h2 => ?_⟩
  · by_cases e : i = p
    · exact absurd (e ▸ hq) h3
    · rw [sw_o e h2]
      by_cases e2 : (i - 1) / 2 = p
      · rw [e2, sw_j, ← hq]
        exact h.2 i h0 h1 e2 p0
      · rw [sw_o e2 h3]
        exact h.1 i h0 h1 e e2
  · rw [sw_o (m := (q - 1) / 2) (by omega) (by omega)]
    have a := h.1 q h3 (by omega) (by omega) (by omega)
    by_cases e : c = p
    · rw [e, sw_j]
      exact a
    · rw [sw_o e (by omega)]
      have b := h.1 c h0 h1 e (by omega)
      rw [h2] at b
      exact O.tr _ _ _ a b
  · rw [sw_i]
    by_cases e : c = p
    · rw [e, sw_j]
      exact O.asym _ _ l
    · rw [sw_o e (by omega)]
      have b := h.1 c h0 h1 e (by omega)
      rw [h2] at b
      exact O.tr _ _ _ (O.asym _ _ l) b
theorem hol_end (h : Hol lt f n p) (k : Kid lt f n p) (e : p = 0 ∨ lt (f p) (f ((p - 1) / 2)) = false) : Hpd lt f n := fun i h0 h1 => by
  by_cases e1 : i = p
  · rcases e with e | e
    · omega
    · rw [e1]
      exact e
  · by_cases e2 : (i - 1) / 2 = p
    · rw [e2]
      exact k i h0 h1 e2
    · exact h.1 i h0 h1 e1 e2
theorem top_least (O : SrtO.Swo lt) (h : Hpd lt f n) : ∀ i, i < n → lt (f i) (f 0) = false := by
  intro i
  induction i using Nat.strongRecOn with
  | ind i ih =>
    intro hi
    by_cases e : i = 0
    · rw [e]
      exact O.refl _
    · exact O.tr _ _ _ (ih ((i - 1) / 2) (by omega) (by omega)) (h i (by omega) hi)
end
end ZH

set_option Elab.async false
set_option linter.all false
set_option maxRecDepth 100000
set_option maxHeartbeats 4000000
namespace ZH
open PySem PySem.Spec PyProof.Rows L2 ZS
theorem entry_sift : entryFor table "_heapq.heapify.sift" = some Builtin.«_heapq.heapify.sift» := entryFor_of_tree (by kernel_rfl)
theorem plain_sift : plainId "_heapq.heapify.sift" = true := by decide +kernel
theorem entry_push : entryFor table "_heapq.heappush" = some Builtin.«_heapq.heappush» := entryFor_of_tree (by kernel_rfl)
theorem kind_push : builtinKind "_heapq.heappush" = none := by kernel_rfl
theorem plain_push : plainId "_heapq.heappush" = true := by decide +kernel
theorem args_push (a b : Value) : argsOk "_heapq.heappush" ⟨[a, b], []⟩ := by unfold argsOk; kernel_rfl
theorem entry_pop : entryFor table "_heapq.heappop" = some Builtin.«_heapq.heappop» := entryFor_of_tree (by kernel_rfl)
theorem kind_pop : builtinKind "_heapq.heappop" = none := by kernel_rfl
theorem plain_pop : plainId "_heapq.heappop" = true := by decide +kernel
theorem args_pop (a : Value) : argsOk "_heapq.heappop" ⟨[a], []⟩ := by unfold argsOk; kernel_rfl
/-- a list's things by their places -/
def ats (vs : List Value) (i : Nat) : Value := vs.getD i .none
theorem ats_some {vs : List Value} {i : Nat} (h : i < vs.length) : vs[i]? = some (ats vs i) := by
  unfold ats
  rw [List.getD_eq_getElem?_getD, List.getElem?_eq_getElem h] <;> rfl
theorem ats_mem {vs : List Value} {i : Nat} (h : i < vs.length) : ats vs i ∈ vs := List.mem_of_getElem? (ats_some h)
/-- two exchanged -/
def swl (vs : List Value) (i j : Nat) : List Value := (vs.set i (ats vs j)).set j (ats vs i)
theorem swl_len (vs : List Value) (i j : Nat) : (swl vs i j).length = vs.length := by simp [swl]
theorem ats_set {vs : List Value} {i : Nat} {v : Value} (h : i < vs.length) (m : Nat) : ats (vs.set i v) m = if m = i then v else ats vs m := by
  unfold ats
  rw [List.getD_eq_getElem?_getD, List.getD_eq_getElem?_getD, List.getElem?_set]
  by_cases e : i = m
  · rw [if_pos e, if_pos h, if_pos e.symm] <;> rfl
  · rw [if_neg e, if_neg fun z => e z.symm]
theorem ats_sw {vs : List Value} {i j : Nat} (hi : i < vs.length) (hj : j < vs.length) : ats (swl vs i j) = sw (ats vs) i j := by
  funext m
  unfold swl sw
  rw [ats_set (by simpa using hj), ats_set hi]
theorem swl_perm {vs : List Value} {i j : Nat} (hi : i < vs.length) (hj : j < vs.length) : (swl vs i j).Perm vs := by
  unfold swl ats
  have e1 : vs.getD j .none = vs[j] := by rw [List.getD_eq_getElem?_getD, List.getElem?_eq_getElem hj] <;> rfl
  have e2 : vs.getD i .none = vs[i] := by rw [List.getD_eq_getElem?_getD, List.getElem?_eq_getElem hi] <;> rfl
  rw [e1, e2]
  exact List.set_set_perm hi hj
end ZH
namespace ZH
open PySem PySem.Spec PyProof.Rows L2 ZS
section
variable {prog : Program} {w : World} {A : Around} {s : Shared} {R : Result → Shared → Prop} {a : Addr} {k : Value → List Int} {V0 : List Value} {h0 : Heap} {res : Value}
abbrev ltV (k : Value → List Int) (u v : Value) : Bool := lexL (k u) (k v)
/-- the things told by < at every heap that differs at the list alone -/
def Cmps (A : Around) (s : Shared) (a : Addr) (h0 : Heap) (V0 : List Value) (k : Value → List Int) : Prop := ∀ h', Heap.SameBut a h0 h' → ∀ u ∈ V0, ∀ v ∈ V0, Ob.RcOp .Lt A { s with heap := h' } u v (ltV k u v)
abbrev siftA (a : Addr) (down : Bool) (p : Nat) (res : Value) : Args := ⟨[.ref a, .bool false, .bool down, rawInt (p : Int), rawInt 0, res, rawInt (-1)], []⟩
theorem at_eq {vs : List Value} {i : Nat} {v : Value} {z : Sem Value} (e : vs[i]? = some v) : (match vs.toArray[i]? with | some v => pure v | none => z) = (pure v : Sem Value) := by
  rw [List.getElem?_toArray, e]
theorem get_sw {h : Heap} {vs : List Value} {n : Nat} (ho : h.get? a = some (seqObj "list" vs.toArray n)) (i j : Nat) : (h.update a (Obj.mapSeq fun xs => (xs.setIfInBounds i (ats vs j)).setIfInBounds j (ats vs i))).get? a = some (seqObj "list" (swl vs i j).toArray (if ((vs.toArray.setIfInBounds i (ats vs j)).setIfInBounds j (ats vs i)).size == vs.toArray.size then n else n + 1)) := by
  rw [get?_update_seq ho]
  simp [swl]
theorem sift_up (hc : Cmps A.in1 s a h0 V0 k) (hR : ∀ vs' h' n', h'.get? a = some (seqObj "list" vs'.toArray n') → Heap.SameBut a h0 h' → vs'.Perm V0 → Hpd (ltV k) (ats vs') vs'.length → R (.ok (.ret res)) { s with heap := h' }) :
    ∀ (p : Nat) (vs : List Value) (h : Heap) (n : Nat), h.get? a = some (seqObj "list" vs.toArray n) → Heap.SameBut a h0 h → vs.Perm V0 → p < vs.length → vs.length ≤ 10000 → Hol (ltV k) (ats vs) vs.length p → Kid (ltV k) (ats vs) vs.length p →
      codeAny (model prog w) A (.builtin "_heapq.heapify.sift" (siftA a false p res)) R { s with heap := h } := by
  intro p
  induction p using Nat.strongRecOn with
  | ind p ih =>
    intro vs h n ho hb hp pl hl hol kid
    refine codeAny_builtin entry_sift ?_
    rw [Around.under_plainId plain_sift _]
    show wpAny _ A.in1 ((seqItems? (.ref a) >>= _) >>= _) _ _ _
    refine wpAny_bind (wpAny_bind (wpAny_seqItems ho rfl (wpAny_pure ?_)))
    simp only [Bool.false_eq_true, if_false]
    by_cases p0 : p = 0
    · subst p0
      refine wpAny_ite_false (by decide) ?_
      refine wpAny_ite_true (by decide) ?_
      exact wpAny_pure (hR vs h n ho hb hp (hol_end hol kid (.inl rfl)))
    · refine wpAny_ite_true (decide_eq_true (show p > 0 by omega)) ?_
      have q1 : (p - 1) / 2 < vs.length := by omega
      refine wpAny_bind (wpAny_of_eq (at_eq (ats_some pl)) ?_)
      refine wpAny_bind (wpAny_of_eq (at_eq (ats_some q1)) ?_)
      show wpAny _ A.in1 ((holding _ (richCompare .Lt (ats vs p) (ats vs ((p - 1) / 2)) >>= _) >>= _) >>= _) _ _ _
      refine wpAny_bind (wpAny_bind (wpAny_holding (wpAny_bind ?_)))
      refine hc h hb _ (hp.mem_iff.mp (ats_mem pl)) _ (hp.mem_iff.mp (ats_mem q1)) prog w _ _ ?_
      refine wpAny_truthy_bool ?_
      show wpAny _ A.in1 ((seqItems? (.ref a) >>= _) >>= _) _ _ _
      refine wpAny_bind (wpAny_bind (wpAny_seqItems ho rfl (wpAny_pure ?_)))
      refine wpAny_ite_false (by simp) (wpAny_pure ?_)
      rcases SrtO.bcase (ltV k (ats vs p) (ats vs ((p - 1) / 2))) with e | e
      · rw [e]
        refine wpAny_ite_true rfl ?_
        show wpAny _ A.in1 (((seqItems? (.ref a) >>= _) >>= _) >>= _) _ _ _
        refine wpAny_bind (wpAny_bind (wpAny_bind (wpAny_seqItems ho rfl (wpAny_pure ?_))))
        refine wpAny_bind (wpAny_of_eq (at_eq (ats_some q1)) ?_)
        refine wpAny_bind (wpAny_of_eq (at_eq (ats_some pl)) ?_)
        refine wpAny_updateSeq ho rfl ?_ (by rw [List.size_toArray]; exact Nat.le_trans hl (by decide)) (by simp; exact Nat.le_trans hl (by decide))
        have hu := hol_up (swo k) hol kid (by omega) pl e
        refine wpAny_pure ⟨plainId_quiet plain_sift _, ih ((p - 1) / 2) (by omega) (swl vs ((p - 1) / 2) p) _ _ (get_sw ho _ _) (hb.trans (Heap.SameBut.update ..)) ((swl_perm q1 pl).trans hp) (by rw [swl_len]; exact q1) (by rw [swl_len]; exact hl) ?_ ?_⟩
        · rw [ats_sw q1 pl, swl_len]
          exact hu.1
        · rw [ats_sw q1 pl, swl_len]
          exact hu.2
      · rw [e]
        refine wpAny_ite_false rfl (wpAny_ite_true (by decide) ?_)
        exact wpAny_pure (hR vs h n ho hb hp (hol_end hol kid (.inr e)))
theorem sift_down (hc : Cmps A.in1 s a h0 V0 k) (hR : ∀ vs' h' n', h'.get? a = some (seqObj "list" vs'.toArray n') → Heap.SameBut a h0 h' → vs'.Perm V0 → Hpd (ltV k) (ats vs') vs'.length → R (.ok (.ret res)) { s with heap := h' }) :
    ∀ (m p : Nat) (vs : List Value) (h : Heap) (n : Nat), vs.length - p = m → h.get? a = some (seqObj "list" vs.toArray n) → Heap.SameBut a h0 h → vs.Perm V0 → p < vs.length → vs.length ≤ 10000 → Hol (ltV k) (ats vs) vs.length p →
      codeAny (model prog w) A (.builtin "_heapq.heapify.sift" (siftA a true p res)) R { s with heap := h } := by
  intro m
  induction m using Nat.strongRecOn with
  | ind m ih =>
    intro p vs h n hm ho hb hp pl hl hol
    refine codeAny_builtin entry_sift ?_
    rw [Around.under_plainId plain_sift _]
    show wpAny _ A.in1 ((seqItems? (.ref a) >>= _) >>= _) _ _ _
    refine wpAny_bind (wpAny_bind (wpAny_seqItems ho rfl (wpAny_pure ?_)))
    simp only [if_true]
    by_cases leaf : p < vs.length / 2
    · refine wpAny_ite_true (decide_eq_true (show p < vs.toArray.size / 2 by simpa using leaf)) ?_
      have l1 : 2 * p + 1 < vs.length := by omega
      have go : ∀ c, c < vs.length → (c - 1) / 2 = p → 0 < c → (∀ d, 0 < d → d < vs.length → (d - 1) / 2 = p → ltV k (ats vs d) (ats vs c) = false) → ∀ (Q : PySem.Fin → Shared → Prop) (E : Value → Shared → Prop), Q = (fun fin s' => match fin with
        | .done f => R (.ok f) s'
        | .again c' => c'.quiet = true ∧ codeAny (model prog w) A c' R s') → Q (.again (.builtin "_heapq.heapify.sift" (siftA a true c res))) { s with heap := h.update a (Obj.mapSeq fun xs => (xs.setIfInBounds c (ats vs p)).setIfInBounds p (ats vs c)) } := by
        intro c cl cp c0 mn Q E e
        rw [e]
        refine ⟨plainId_quiet plain_sift _, ih (vs.length - c) (by omega) c (swl vs c p) _ _ (by rw [swl_len]) (get_sw ho _ _) (hb.trans (Heap.SameBut.update ..)) ((swl_perm cl pl).trans hp) (by rw [swl_len]; exact cl) (by rw [swl_len]; exact hl) ?_⟩
        rw [ats_sw cl pl, swl_len]
        exact hol_down hol c0 cl cp mn
      by_cases two : 2 * p + 1 + 1 < vs.length
      · refine wpAny_ite_true (decide_eq_true (show 2 * p + 1 + 1 < vs.toArray.size by simpa using two)) ?_
        refine wpAny_bind (wpAny_of_eq (at_eq (ats_some l1)) ?_)
        refine wpAny_bind (wpAny_of_eq (at_eq (ats_some two)) ?_)
        refine wpAny_ite_false rfl ?_
        show wpAny _ A.in1 ((holding _ (richCompare .Lt (ats vs (2 * p + 1)) (ats vs (2 * p + 1 + 1)) >>= _) >>= _) >>= _) _ _ _
        refine wpAny_bind (wpAny_bind (wpAny_holding (wpAny_bind ?_)))
        refine hc h hb _ (hp.mem_iff.mp (ats_mem l1)) _ (hp.mem_iff.mp (ats_mem two)) prog w _ _ ?_
        refine wpAny_truthy_bool ?_
        show wpAny _ A.in1 ((seqItems? (.ref a) >>= _) >>= _) _ _ _
        refine wpAny_bind (wpAny_bind (wpAny_seqItems ho rfl (wpAny_pure ?_)))
        refine wpAny_ite_false (by simp) (wpAny_pure ?_)
        rcases SrtO.bcase (ltV k (ats vs (2 * p + 1)) (ats vs (2 * p + 1 + 1))) with e | e
        · rw [e]
          refine wpAny_ite_false rfl ?_
          show wpAny _ A.in1 (((seqItems? (.ref a) >>= _) >>= _) >>= _) _ _ _
          refine wpAny_bind (wpAny_bind (wpAny_bind (wpAny_seqItems ho rfl (wpAny_pure ?_))))
          refine wpAny_bind (wpAny_of_eq (at_eq (ats_some l1)) ?_)
          refine wpAny_bind (wpAny_of_eq (at_eq (ats_some pl)) ?_)
          refine wpAny_updateSeq ho rfl ?_ (by rw [List.size_toArray]; exact Nat.le_trans hl (by decide)) (by simp; exact Nat.le_trans hl (by decide))
          refine wpAny_pure (go (2 * p + 1) l1 (by omega) (by omega) (fun d d0 dn dp => ?_) _ (fun _ _ => True) rfl)
          rcases (show d = 2 * p + 1 ∨ d = 2 * p + 1 + 1 by omega) with z | z
          · rw [z]
            exact (swo k).refl _
          · rw [z]
            exact (swo k).asym _ _ e
        · rw [e]
          refine wpAny_ite_true rfl ?_
          show wpAny _ A.in1 (((seqItems? (.ref a) >>= _) >>= _) >>= _) _ _ _
          refine wpAny_bind (wpAny_bind (wpAny_bind (wpAny_seqItems ho rfl (wpAny_pure ?_))))
          refine wpAny_bind (wpAny_of_eq (at_eq (ats_some two)) ?_)
          refine wpAny_bind (wpAny_of_eq (at_eq (ats_some pl)) ?_)
          refine wpAny_updateSeq ho rfl ?_ (by rw [List.size_toArray]; exact Nat.le_trans hl (by decide)) (by simp; exact Nat.le_trans hl (by decide))
          refine wpAny_pure (go (2 * p + 1 + 1) two (by omega) (by omega) (fun d d0 dn dp => ?_) _ (fun _ _ => True) rfl)
          rcases (show d = 2 * p + 1 ∨ d = 2 * p + 1 + 1 by omega) with z | z
          · rw [z]
            exact e
          · rw [z]
            exact (swo k).refl _
      · refine wpAny_ite_false (decide_eq_false (show ¬ (2 * p + 1 + 1 < vs.toArray.size) by simpa using two)) ?_
        show wpAny _ A.in1 (((seqItems? (.ref a) >>= _) >>= _) >>= _) _ _ _
        refine wpAny_bind (wpAny_bind (wpAny_bind (wpAny_seqItems ho rfl (wpAny_pure ?_))))
        refine wpAny_bind (wpAny_of_eq (at_eq (ats_some l1)) ?_)
        refine wpAny_bind (wpAny_of_eq (at_eq (ats_some pl)) ?_)
        refine wpAny_updateSeq ho rfl ?_ (by rw [List.size_toArray]; exact Nat.le_trans hl (by decide)) (by simp; exact Nat.le_trans hl (by decide))
        refine wpAny_pure (go (2 * p + 1) l1 (by omega) (by omega) (fun d d0 dn dp => ?_) _ (fun _ _ => True) rfl)
        have : d = 2 * p + 1 := by omega
        rw [this]
        exact (swo k).refl _
    · refine wpAny_ite_false (decide_eq_false (show ¬ (p < vs.toArray.size / 2) by simpa using leaf)) ?_
      refine wpAny_pure ⟨plainId_quiet plain_sift _, sift_up hc hR p vs h n ho hb hp pl hl hol fun c c0 cn cp => ?_⟩
      omega
end
/-! ### as rules -/
theorem call_by {prog : Program} {w : World} {A : Around} {E : Value → Shared → Prop} {s : Shared} {id : String} {b : Builtin} {args : List Value} {Q : Value → Shared → Prop} (hk : builtinKind id = none) (hp : plainId id = true)
    (hb : entryFor table id = some b) (ha : argsOk id ⟨args, []⟩)
    (hc : wpAny (model prog w) A.in1 (b ⟨args, []⟩) (fun fin s' => match fin with
      | .done f => (match (Except.ok f : Result) with | .ok (.ret v) => Q v s' | .ok _ => False | .error e => E e s')
      | .again c' => c'.quiet = true ∧ codeAny (model prog w) A c' (fun r s' => match r with | .ok (.ret v) => Q v s' | .ok _ => False | .error e => E e s') s') E s) :
    wpAny (model prog w) A (call (.builtin id) args) Q E s := PyProof.Rows.kmk_tree hk hp hb ha hc
/-- things that are tuples of numbers, by k -/
def AreT (H : Hp) (k : V → List Int) (xs : List V) : Prop := ∀ x ∈ xs, ∃ t, x = V.ref t ∧ H t = some (.tup ((k x).map V.int))
def atv (xs : List V) (i : Nat) : V := xs.getD i .non
def HeapL (k : V → List Int) (xs : List V) : Prop := Hpd (fun x y => lexL (k x) (k y)) (atv xs) xs.length
def rPush : List V → Hp → VK → Prop := fun vs H Q => ∃ (a : Addr) (x : V) (xs : List V) (k : V → List Int), vs = [V.ref a, x] ∧ H a = some (.lst xs) ∧ xs.length ≤ 5000 ∧ AreT H k (x :: xs) ∧ HeapL k xs ∧ ∀ ys, ys.Perm (x :: xs) → HeapL k ys → Q .non (upd H a (.lst ys))
def rPopH : List V → Hp → VK → Prop := fun vs H Q => ∃ (a : Addr) (xs : List V) (k : V → List Int), vs = [V.ref a] ∧ H a = some (.lst xs) ∧ xs ≠ [] ∧ xs.length ≤ 5000 ∧ AreT H k xs ∧ HeapL k xs ∧ ∀ x ys, xs.Perm (x :: ys) → HeapL k ys → (∀ y ∈ ys, lexL (k y) (k x) = false) → Q x (upd H a (.lst ys))
theorem atv_back {xs : List V} {us : List Value} (h : xs = us.map backV) (i : Nat) (hi : i < us.length) : atv xs i = backV (ats us i) := by
  unfold atv ats
  rw [h, List.getD_eq_getElem?_getD, List.getD_eq_getElem?_getD, List.getElem?_map, List.getElem?_eq_getElem hi] <;> rfl
theorem heapL_back {xs : List V} {us : List Value} {k : V → List Int} (h : xs = us.map backV) : HeapL k xs ↔ Hpd (ltV fun u => k (backV u)) (ats us) us.length := by
  unfold HeapL Hpd
  have hl : xs.length = us.length := by rw [h, List.length_map]
  rw [hl]
  constructor
  · intro q i h0 h1
    have := q i h0 h1
    rw [atv_back h i h1, atv_back h _ (by omega)] at this
    exact this
  · intro q i h0 h1
    rw [atv_back h i h1, atv_back h _ (by omega)]
    exact q i h0 h1
section
variable {X : Cx}
theorem rc_lt {A : Around} {s : Shared} {p q : Addr} {us vs : List Value} {l m : List Int} (hu : A.units < cLine) (p1 : s.heap.IsTuple p us.toArray) (p2 : s.heap.IsTuple q vs.toArray) (i1 : IntsAre us l) (i2 : IntsAre vs m) : Ob.RcOp .Lt A s (.ref p) (.ref q) (lexL l m) := by
  have n1 : us.toArray.size = l.length := List.size_toArray.trans i1.length
  have n2 : vs.toArray.size = m.length := List.size_toArray.trans i2.length
  have g1 : ∀ j (hj : j < us.toArray.size), ∃ t, us.toArray[j] = .int (l.getD j 0) t := fun j hj => PyProof.Rows.IntsAre.int_at i1 _ _ (by simp [List.getElem?_eq_getElem (show j < us.length by simpa using hj)])
  have g2 : ∀ j (hj : j < vs.toArray.size), ∃ t, vs.toArray[j] = .int (m.getD j 0) t := fun j hj => PyProof.Rows.IntsAre.int_at i2 _ _ (by simp [List.getElem?_eq_getElem (show j < vs.length by simpa using hj)])
  have R := Ob.RcOp.tuples_lt (A := A) (s := s) (e := fun j => l.getD j 0 == m.getD j 0) (r := fun j => decide (l.getD j 0 < m.getD j 0)) p1 p2 hu (fun j h1 h2 => by
    obtain ⟨t, et⟩ := g1 j h1
    obtain ⟨t', et'⟩ := g2 j h2
    rw [et, et']
    exact SeqAt.EqAt.int_int _ _ _ _) (fun j h1 h2 _ => by
    obtain ⟨t, et⟩ := g1 j h1
    obtain ⟨t', et'⟩ := g2 j h2
    rw [et, et']
    exact Ob.RcOp.lt_int _ _ _ _)
  rw [n1, n2, lexAt_L l m _ _ 0 (fun j _ => by rw [Nat.zero_add]; rfl) (fun j _ => by rw [Nat.zero_add])] at R
  exact R
theorem cmps {A : Around} {s : Shared} {a : Addr} {V0 : List Value} {k : Value → List Int} (hu : A.units < cLine) (h : ∀ v ∈ V0, TupI s.heap v (k v)) (ha : ∀ ob, s.heap.get? a = some ob → ob.cls ≠ .type "tuple") : Cmps A s a s.heap V0 k := by
  intro h' hb u hu' v hv'
  have mv : ∀ {v : Value} {l : List Int}, TupI s.heap v l → TupI h' v l := fun t => t.more fun b ob g c => (hb.2 b fun z => ha ob (by rw [← z]; exact g) c).trans g
  obtain ⟨p, ob, us, n, e, g, c, d, i⟩ := mv (h u hu')
  obtain ⟨q, ob', vs, n', e', g', c', d', i'⟩ := mv (h v hv')
  unfold ltV
  generalize k u = l at i ⊢
  generalize k v = m at i' ⊢
  rw [e, e']
  exact rc_lt hu ⟨ob, g, c, n, d⟩ ⟨ob', g', c', n', d'⟩ i i'
theorem tups_of {X : Cx} {pins : List (Addr × Obj)} {σ : L2.St} {H : Hp} {s : Shared} {k : V → List Int} {xs : List V} {us : List Value} (I : Inv X pins σ H s) (rv : Vals xs us) (h : AreT H k xs) : xs = us.map backV ∧ ∀ v ∈ us, (∃ b, v = Value.ref b) ∧ TupI s.heap v (k (backV v)) := by
  have back := refs_back rv fun x m => (h x m).imp fun t h => h.1
  refine ⟨back.1, fun v hv => ⟨back.2 v hv, ?_⟩⟩
  obtain ⟨t, rfl⟩ := back.2 v hv
  have hm : V.ref t ∈ xs := by
    rw [back.1]
    exact List.mem_map.mpr ⟨_, hv, rfl⟩
  obtain ⟨t', e, ht⟩ := h _ hm
  cases e
  obtain ⟨_, us2, r2, ob, g, c, n, d⟩ := I.hok _ _ ht
  exact ⟨t, ob, us2, n, rfl, g, c, d, Vals.ints r2⟩
theorem cr_push (hu : X.A.units + 1 < cLine) : CallR X (.builtin "_heapq.heappush") rPush := by
  intro pins s σ H vs us Q I r h
  obtain ⟨a, x, xs, k, rfl, hH, hz, ht, hh, q⟩ := h
  obtain ⟨ua, ux, rfl, ra, rx⟩ := vals2 r
  cases ra
  obtain ⟨z, its, n, rv, hl, e⟩ := I.lstM hH
  obtain ⟨b1, t1⟩ := tups_of I (.cons rx rv) ht
  have b2 : xs = its.map backV := by
    have := b1
    simp only [List.map_cons, List.cons.injEq] at this
    exact this.2
  have hb := (heapL_back (k := k) b2).mp hh
  have lenI : its.length ≤ 5000 := by omega
  refine call_by kind_push plain_push entry_push (args_push _ _) ?_
  show wpAny _ X.A.in1 ((noKeywords "_heapq.heappush" _ >>= _) >>= _) _ _ _
  refine wpAny_bind (wpAny_bind (wpAny_of_eq (a := ()) rfl ?_))
  refine wpAny_bind (wpAny_of_eq (a := ()) rfl ?_)
  show wpAny _ X.A.in1 ((isInstance (.ref a) (.type "list") >>= _) >>= _) _ _ _
  refine wpAny_bind (wpAny_bind (wpAny_isInstance (T := "list") ⟨_, e, rfl⟩ PySem.F.sub_list_list ?_))
  refine wpAny_ite_true rfl (wpAny_pure (wpAny_pure ?_))
  show wpAny _ X.A.in1 (updateSeq a (fun xs => xs.push ux) >>= _) _ _ _
  refine wpAny_bind (wpAny_updateSeq e rfl ?_ (by rw [List.size_toArray]; exact Nat.le_trans lenI (by decide)) (by rw [Array.size_push, List.size_toArray]; exact Nat.le_trans (Nat.succ_le_succ lenI) (by decide)))
  have e1 := get?_update_seq e (fun xs => xs.push ux)
  have sb := Heap.SameBut.update s.heap a (Obj.mapSeq fun xs => xs.push ux)
  generalize s.heap.update a (Obj.mapSeq fun xs => xs.push ux) = h1 at e1 sb ⊢
  obtain ⟨n1, e2⟩ : ∃ n1, h1.get? a = some (seqObj "list" (its ++ [ux]).toArray n1) := ⟨_, by
    rw [List.push_toArray] at e1
    exact e1⟩
  show wpAny _ X.A.in1 ((seqItems? (.ref a) >>= _) >>= _) _ _ _
  refine wpAny_bind (wpAny_bind (wpAny_seqItems e2 rfl (wpAny_pure ?_)))
  have tup : ∀ v ∈ its ++ [ux], (∃ b, v = Value.ref b) ∧ TupI h1 v (k (backV v)) := fun v hv => by
    obtain ⟨a1, a2⟩ := t1 v (by
      rcases List.mem_append.mp hv with h | h
      · exact List.mem_cons_of_mem _ h
      · rw [List.mem_singleton.mp h]
        exact List.mem_cons_self)
    refine ⟨a1, a2.more fun b ob g c => (sb.2 b fun z => ?_).trans g⟩
    rw [z, e] at g
    cases g
    exact absurd (Value.type.inj c) (by decide)
  have hn := hol_new hb (ats (its ++ [ux])) fun i hi => by
    unfold ats
    rw [List.getD_eq_getElem?_getD, List.getD_eq_getElem?_getD, List.getElem?_append_left hi]
  have len : (its ++ [ux]).length = its.length + 1 := by simp
  have sz : (its ++ [ux]).toArray.size - 1 = its.length := by simp
  rw [sz]
  refine wpAny_pure ⟨plainId_quiet plain_sift _, sift_up (s := s) (h0 := h1) (V0 := its ++ [ux]) (cmps (A := X.A.in1) (s := { s with heap := h1 }) hu (fun v hv => (tup v hv).2) fun ob g c => ?_) (fun vs' h' n' g' sb' pm' hp' => ?_) its.length (its ++ [ux]) h1 n1 e2 (Heap.SameBut.refl _ _) (List.Perm.refl _) (by omega) (by omega) (by rw [len]; exact hn.1) (by rw [len]; exact hn.2)⟩
  · rw [e2] at g
    cases g
    exact absurd (Value.type.inj c) (by decide)
  · have refs : ∀ u ∈ vs', ∃ b, u = Value.ref b := fun u hu => (tup u (pm'.mem_iff.mp hu)).1
    have len' : vs'.length = its.length + 1 := pm'.length_eq.trans len
    have bx : V.ref = V.ref := rfl
    have pm : (vs'.map backV).Perm (x :: xs) := by
      rw [b1]
      refine (pm'.map backV).trans ?_
      rw [List.map_append, List.map_cons]
      exact List.perm_append_comm
    refine ⟨.non, upd H a (.lst (vs'.map backV)), I.write (x := a) (e := a) (t' := s.toks) (by rw [hH]; exact trivial) (.inl rfl) (fun b u nb g => (sb'.2 b nb).trans ((sb.2 b nb).trans g)) ⟨_, g'⟩ ⟨?_, vs', n', vals_back refs, g'⟩, rfl, q _ pm ((heapL_back rfl).mpr hp')⟩
    rw [List.length_map, len']
    exact Nat.le_trans (Nat.succ_le_succ lenI) (by decide)
theorem cr_popH (hu : X.A.units + 1 < cLine) : CallR X (.builtin "_heapq.heappop") rPopH := by
  intro pins s σ H vs us Q I r h
  obtain ⟨a, xs, k, rfl, hH, hx, hz, ht, hh, q⟩ := h
  obtain ⟨ua, rfl, ra⟩ := vals1 r
  cases ra
  obtain ⟨z, its, n, rv, hl, e⟩ := I.lstM hH
  obtain ⟨b2, t1⟩ := tups_of I rv ht
  have hb := (heapL_back (k := k) b2).mp hh
  have lenI : its.length ≤ 5000 := by omega
  have pos : 0 < its.length := by
    rw [← hl]
    exact List.length_pos_iff.mpr hx
  have lastE : its.toArray.back? = some (ats its (its.length - 1)) := by
    rw [Array.back?_eq_getElem?, List.getElem?_toArray, List.size_toArray]
    exact ats_some (by omega)
  refine call_by kind_pop plain_pop entry_pop (args_pop _) ?_
  show wpAny _ X.A.in1 ((oneArg "_heapq.heappop" _ >>= _) >>= _) _ _ _
  refine wpAny_bind (wpAny_bind (wpAny_of_eq (a := Value.ref a) rfl ?_))
  show wpAny _ X.A.in1 ((isInstance (.ref a) (.type "list") >>= _) >>= _) _ _ _
  refine wpAny_bind (wpAny_bind (wpAny_isInstance (T := "list") ⟨_, e, rfl⟩ PySem.F.sub_list_list ?_))
  refine wpAny_ite_true rfl (wpAny_pure (wpAny_pure ?_))
  show wpAny _ X.A.in1 ((seqItems? (.ref a) >>= _) >>= _) _ _ _
  refine wpAny_bind (wpAny_bind (wpAny_seqItems e rfl (wpAny_pure ?_)))
  rw [lastE]
  show wpAny _ X.A.in1 (updateSeq a (fun xs => xs.pop) >>= _) _ _ _
  refine wpAny_bind (wpAny_updateSeq e rfl ?_ (by rw [List.size_toArray]; exact Nat.le_trans lenI (by decide)) (by rw [Array.size_pop, List.size_toArray]; exact Nat.le_trans (Nat.sub_le _ _) (Nat.le_trans lenI (by decide))))
  have e1 := get?_update_seq e (fun xs => xs.pop)
  have sb := Heap.SameBut.update s.heap a (Obj.mapSeq fun xs => xs.pop)
  generalize s.heap.update a (Obj.mapSeq fun xs => xs.pop) = h1 at e1 sb ⊢
  obtain ⟨n1, e2⟩ : ∃ n1, h1.get? a = some (seqObj "list" its.dropLast.toArray n1) := ⟨_, by
    rw [List.pop_toArray] at e1
    exact e1⟩
  obtain ⟨f, rest, rfl⟩ : ∃ f rest, its = f :: rest := by
    cases its with
    | nil => cases pos
    | cons f rest => exact ⟨f, rest, rfl⟩
  by_cases one : rest = []
  · subst one
    refine wpAny_ite_true rfl (wpAny_pure ?_)
    refine ⟨backV f, upd H a (.lst []), I.write (x := a) (e := a) (t' := s.toks) (by rw [hH]; exact trivial) (.inl rfl) (fun b u nb g => (sb.2 b nb).trans g) ⟨_, e2⟩ ⟨Nat.zero_le _, [], n1, .nil, e2⟩, ?_, q _ [] (by rw [b2]; exact List.Perm.refl _) (fun i _ h => by cases h) (fun y hy => by cases hy)⟩
    obtain ⟨⟨b, hb⟩, _⟩ := t1 f List.mem_cons_self
    show L2.RelV (backV f) f
    rw [hb]
    exact rfl
  · have rl : 0 < rest.length := List.length_pos_iff.mpr one
    refine wpAny_ite_false (by simpa using one) ?_
    refine wpAny_bind (wpAny_of_eq (show _ = pure f from rfl) ?_)
    have dl : (f :: rest).dropLast = f :: rest.dropLast := by
      cases rest with
      | nil => exact absurd rfl one
      | cons g r => rfl
    rw [dl] at e2
    have lastv : ats (f :: rest) ((f :: rest).length - 1) = rest.getLast one := by
      unfold ats
      have z : (f :: rest)[rest.length]? = some (rest.getLast one) := by
        obtain ⟨j, hj⟩ : ∃ j, rest.length = j + 1 := ⟨rest.length - 1, by omega⟩
        rw [hj, List.getElem?_cons_succ, List.getLast_eq_getElem, List.getElem?_eq_getElem (by omega)]
        congr 2
        omega
      rw [List.getD_eq_getElem?_getD]
      show (f :: rest)[rest.length]?.getD _ = _
      rw [z] <;> rfl
    have perm0 : (f :: rest).Perm (f :: rest.getLast one :: rest.dropLast) := by
      refine List.Perm.cons _ ?_
      have e7 := List.dropLast_concat_getLast one
      exact (List.Perm.of_eq e7.symm).trans List.perm_append_comm
    rw [lastv]
    generalize rest.getLast one = last at perm0 lastv ⊢
    show wpAny _ X.A.in1 (updateSeq a (fun xs => xs.setIfInBounds 0 last) >>= _) _ _ _
    have ll : (f :: rest.dropLast).length = rest.length := by
      rw [List.length_cons, List.length_dropLast]
      omega
    have lr : rest.length ≤ 5000 := by
      simp only [List.length_cons] at lenI
      omega
    refine wpAny_bind (wpAny_updateSeq e2 rfl ?_ (by rw [List.size_toArray, ll]; exact Nat.le_trans lr (by decide)) (by rw [Array.size_setIfInBounds, List.size_toArray, ll]; exact Nat.le_trans lr (by decide)))
    have e3 := get?_update_seq e2 (fun xs => xs.setIfInBounds 0 last)
    have sb2 := Heap.SameBut.update h1 a (Obj.mapSeq fun xs => xs.setIfInBounds 0 last)
    show wpAny _ _ _ _ _ { s with heap := h1.update a (Obj.mapSeq fun xs => xs.setIfInBounds 0 last) }
    generalize h1.update a (Obj.mapSeq fun xs => xs.setIfInBounds 0 last) = h2 at e3 sb2 ⊢
    obtain ⟨n2, e4⟩ : ∃ n2, h2.get? a = some (seqObj "list" (last :: rest.dropLast).toArray n2) := ⟨_, by
      rw [List.setIfInBounds_toArray] at e3
      exact e3⟩
    have sb3 := sb.trans sb2
    have sub : ∀ u ∈ last :: rest.dropLast, u ∈ f :: rest := fun u hu => perm0.mem_iff.mpr (List.mem_cons_of_mem _ hu)
    have tup : ∀ v ∈ last :: rest.dropLast, (∃ b, v = Value.ref b) ∧ TupI h2 v (k (backV v)) := fun v hv => by
      obtain ⟨a1, a2⟩ := t1 v (sub v hv)
      refine ⟨a1, a2.more fun b ob g c => (sb3.2 b fun z => ?_).trans g⟩
      rw [z, e] at g
      cases g
      exact absurd (Value.type.inj c) (by decide)
    have len : (last :: rest.dropLast).length = rest.length := by
      rw [List.length_cons, List.length_dropLast]
      omega
    have same : ∀ i, 0 < i → i < rest.length → ats (last :: rest.dropLast) i = ats (f :: rest) i := fun i h0 h1 => by
      unfold ats
      obtain ⟨j, rfl⟩ : ∃ j, i = j + 1 := ⟨i - 1, by omega⟩
      rw [List.getD_eq_getElem?_getD, List.getD_eq_getElem?_getD, List.getElem?_cons_succ, List.getElem?_cons_succ, List.getElem?_dropLast, if_pos (by omega)]
    have hol : Hol (ltV fun u => k (backV u)) (ats (last :: rest.dropLast)) (last :: rest.dropLast).length 0 := by
      rw [len]
      refine ⟨fun i h0 h1 h2 h3 => ?_, fun c _ _ _ h => absurd h (by omega)⟩
      rw [same i h0 h1, same _ (by omega) (by omega)]
      exact hb i h0 (by simp only [List.length_cons]; omega)
    refine wpAny_pure ⟨plainId_quiet plain_sift _, sift_down (s := s) (h0 := h2) (V0 := last :: rest.dropLast) (cmps (A := X.A.in1) (s := { s with heap := h2 }) hu (fun v hv => (tup v hv).2) fun ob g c => ?_) (fun vs' h' n' g' sb' pm' hp' => ?_) _ 0 (last :: rest.dropLast) h2 n2 rfl e4 (Heap.SameBut.refl _ _) (List.Perm.refl _) (by omega) (by omega) hol⟩
    · rw [e4] at g
      cases g
      exact absurd (Value.type.inj c) (by decide)
    · have refs : ∀ u ∈ vs', ∃ b, u = Value.ref b := fun u hu => (tup u (pm'.mem_iff.mp hu)).1
      have len' : vs'.length = rest.length := pm'.length_eq.trans len
      have pm : xs.Perm (backV f :: vs'.map backV) := by
        rw [b2]
        refine (perm0.map backV).trans ?_
        rw [List.map_cons]
        exact (pm'.symm.map backV).cons _
      refine ⟨backV f, upd H a (.lst (vs'.map backV)), I.write (x := a) (e := a) (t' := s.toks) (by rw [hH]; exact trivial) (.inl rfl) (fun b u nb g => (sb'.2 b nb).trans ((sb3.2 b nb).trans g)) ⟨_, g'⟩ ⟨?_, vs', n', vals_back refs, g'⟩, ?_, q _ _ pm ((heapL_back rfl).mpr hp') fun y hy => ?_⟩
      · rw [List.length_map, len']
        exact Nat.le_trans lr (by decide)
      · obtain ⟨⟨b, hb⟩, _⟩ := t1 f List.mem_cons_self
        show L2.RelV (backV f) f
        rw [hb]
        exact rfl
      · obtain ⟨u, hu, rfl⟩ := List.mem_map.mp hy
        obtain ⟨i, hi, e5⟩ := List.mem_iff_getElem.mp (sub u (pm'.mem_iff.mp hu))
        have tl := top_least (swo fun u => k (backV u)) hb i hi
        have e6 : ats (f :: rest) i = u := by
          unfold ats
          rw [List.getD_eq_getElem?_getD, List.getElem?_eq_getElem hi, e5] <;> rfl
        rw [e6] at tl
        exact tl
end
end ZH

set_option Elab.async false
set_option linter.all false
set_option maxRecDepth 100000
set_option maxHeartbeats 4000000
namespace K33
open PySem PySem.Spec PyProof.Rows L2 Z
open Evl (Ex ex_l ex_t sq_of st_of fresh_back RetL RetV)
local macro_rules | `(tactic| walk_at "zc") => `(tactic| first
  | (show (0 : Int) < _; omega)
  | exact ⟨by decide, by decide⟩
  | exact Or.inl ⟨by decide, by decide⟩
  | exact Or.inr ⟨by decide, by decide⟩
  | exact ⟨by decide, by decide, by decide⟩
  | exact Or.inl ⟨by omega, by omega⟩
  | exact Or.inr ⟨by omega, by omega⟩)
local macro_rules | `(tactic| walk_at "sq") => `(tactic| first
  | assumption
  | exact sq_of (by assumption)
  | exact sq_of upd_same
  | exact st_of (by assumption)
  | exact st_of upd_same
  | (refine ex_l (by assumption) ?_; walk_at "sq")
  | (refine ex_t (by assumption) ?_; walk_at "sq")
  | (refine ex_l (Ex.new (by assumption)) ?_; walk_at "sq")
  | (refine ex_t (Ex.new (by assumption)) ?_; walk_at "sq"))
local macro_rules | `(tactic| walk_at "ex") => `(tactic| first
  | exact Ex.refl _
  | assumption
  | (refine Ex.trans ?_ (Ex.new (by assumption)); walk_at "ex")
  | ((refine' Ex.trans ?_ ?zx); (case zx => assumption); walk_at "ex"))
local macro_rules | `(tactic| walk_at "z1") => `(tactic| first
  | with_reducible exact trivial
  | with_reducible refine z_seq ?_
  | with_reducible refine z_asg ?_
  | with_reducible refine z_ret ?_
  | with_reducible refine z_ifs ?_
  | with_reducible refine z_op ?_
  | with_reducible refine z_c ?_
  | ((with_reducible refine' z_var ?zh ?_); (case zh => exact rfl))
  | with_reducible refine z_i0 ?_
  | with_reducible refine z_gname ?_
  | ((with_reducible refine z_i ?zh ?_); (case zh => walk_at "zc"))
  | with_reducible refine z_next ?_
  | with_reducible refine z_test ?_
  | with_reducible refine z_tB ?_
  | with_reducible refine z_bl ?_
  | ((with_reducible refine z_eq ?zh ?_); (case zh => rfl))
  | ((with_reducible refine z_ne ?zh ?_); (case zh => rfl))
  | with_reducible refine z_cons ?_
  | with_reducible refine z_nil ?_
  | with_reducible refine z_call ?_
  | with_reducible refine z_cb ?_
  | with_reducible refine z_lst ?_
  | with_reducible refine z_tup ?_
  | with_reducible refine z_un ?_
  | with_reducible refine z_u ?_
  | with_reducible refine z_if ?_
  | with_reducible refine z_andT ?_
  | with_reducible refine z_orT ?_
  | with_reducible refine z_notT ?_
  | with_reducible refine z_trub ?_
  | with_reducible refine z_trui ?_
  | with_reducible refine z_trun ?_
  | with_reducible refine z_tru ?_
  | with_reducible refine z_and ?_
  | with_reducible refine z_or ?_
  | with_reducible refine z_not ?_
  | with_reducible refine z_yes ?_
  | with_reducible refine z_isN ?_
  | with_reducible refine z_notN ?_
  | with_reducible refine z_chain ?_
  | with_reducible refine z_int1 ?_
  | with_reducible refine z_intb ?_
  | with_reducible refine z_max2 ?_
  | with_reducible refine z_min2 ?_
  | with_reducible refine z_revL ?_
  | with_reducible refine z_nopart ?_
  | with_reducible refine z_part ?_
  | with_reducible refine z_part1 ?_
  | with_reducible refine z_sl ?_
  | with_reducible refine z_drop ?_
  | with_reducible refine z_bm ?_
  | with_reducible refine z_bm0 ?_
  | with_reducible refine z_tys ?_
  | with_reducible refine z_brk ?_
  | with_reducible refine z_cont ?_
  | with_reducible refine z_retN ?_
  | with_reducible refine z_fl ?_
  | with_reducible refine z_ft ?_
  | with_reducible refine z_fs ?_
  | with_reducible refine z_fr1 ?_
  | with_reducible refine z_fr2 ?_
  | with_reducible refine z_fz ?_
  | with_reducible refine z_fe ?_
  | with_reducible refine z_cl ?_
  | with_reducible refine z_cs ?_
  | with_reducible refine z_cr1 ?_
  | with_reducible refine z_crv ?_
  | with_reducible refine z_isbl ?_
  | with_reducible refine z_notbl ?_
  | with_reducible refine ite_t ?_
  | with_reducible refine ite_f ?_
  | ((with_reducible refine' z_aug ?zh ?_); (case zh => exact rfl))
  | with_reducible refine z_ipi ?_)
local macro_rules | `(tactic| walk_at "zz") => `(tactic| repeat walk_at "z1")
open ZS
local macro_rules | `(tactic| walk_at "z1") => `(tactic| first
  | with_reducible refine z_fld ?_
  | with_reducible refine z_sfld ?_
  | with_reducible refine z_meth ?_
  | with_reducible refine z_make ?_
  | with_reducible refine z_par ?_
  | with_reducible refine z_gsub ?_)

def iL : List V → List Int
  | [] => []
  | .int i :: r => i :: iL r
  | _ :: r => iL r
theorem iL_map : ∀ l : List Int, iL (l.map V.int) = l
  | [] => rfl
  | i :: l => by
    show i :: iL (l.map V.int) = _
    rw [iL_map l]
/-- the numbers of a tuple -/
def tk (H : Hp) : V → List Int
  | .ref t => (match H t with
    | some (.tup xs) => iL xs
    | _ => [])
  | _ => []
/-- a tuple of whole numbers, of one to three -/
def Tup (H : Hp) (v : V) : Prop := ∃ t l, v = .ref t ∧ H t = some (.tup (l.map V.int)) ∧ l ≠ [] ∧ l.length ≤ 3
theorem Tup.tk {H : Hp} {v : V} (h : Tup H v) : ∃ t, v = .ref t ∧ H t = some (.tup ((K33.tk H v).map V.int)) ∧ K33.tk H v ≠ [] ∧ (K33.tk H v).length ≤ 3 := by
  obtain ⟨t, l, rfl, h1, h2, h3⟩ := h
  have e : K33.tk H (.ref t) = l := by
    show (match H t with
      | some (.tup xs) => iL xs
      | _ => []) = l
    rw [h1]
    exact iL_map l
  rw [e]
  exact ⟨t, rfl, h1, h2, h3⟩
/-- all but what may be written stays -/
def But (B : List Addr) (H H' : Hp) : Prop := ∀ b o, b ∉ B → H b = some o → H' b = some o
theorem But.ex {B : List Addr} {H H' : Hp} (e : Ex H H') : But B H H' := fun b o _ h => e b o h
theorem But.trans {B : List Addr} {H H' H2 : Hp} (a : But B H H') (b : But B H' H2) : But B H H2 := fun c o hc h => b c o hc (a c o hc h)
theorem But.mono {B B' : List Addr} {H H' : Hp} (a : But B H H') (s : ∀ b ∈ B, b ∈ B') : But B' H H' := fun c o hc h => a c o (fun z => hc (s c z)) h
abbrev HC (K : PySem.W.Frag) : Addr := He.ga K "Heap"
/-- a heap with these things -/
def HeapAt (K : PySem.W.Frag) (H : Hp) (a p : Addr) (vs : List V) : Prop := ∃ dx, H a = some (.ins (HC K) dx [("things", .ref p)]) ∧ H p = some (.lst vs) ∧ (∀ v ∈ vs, Tup H v) ∧ ZH.HeapL (tk H) vs
def sp_Heap_init (K : PySem.W.Frag) : Sp := fun vs H Q _ => ∃ (a dx : Addr), vs = [.ref a] ∧ H a = some (.ins (HC K) dx []) ∧ ∀ H' p, H p = none → HeapAt K H' a p [] → But [a] H H' → Q .non H'
def sp_Heap_put (K : PySem.W.Frag) : Sp := fun vs H Q _ => ∃ (a p : Addr) (v : V) (xs : List V), vs = [.ref a, v] ∧ HeapAt K H a p xs ∧ Tup H v ∧ xs.length ≤ 1000 ∧ ∀ H' ys, HeapAt K H' a p ys → ys.Perm (v :: xs) → But [a, p] H H' → Q .non H'
def sp_Heap_take (K : PySem.W.Frag) : Sp := fun vs H Q _ => ∃ (a p : Addr) (xs : List V), vs = [.ref a] ∧ HeapAt K H a p xs ∧ xs ≠ [] ∧ xs.length ≤ 1000 ∧ ∀ H' v ys, HeapAt K H' a p ys → xs.Perm (v :: ys) → (∀ u ∈ ys, lexL (tk H u) (tk H v) = false) → But [a, p] H H' → Q v H'
def sp_Heap_size (K : PySem.W.Frag) : Sp := fun vs H Q _ => ∃ (a p : Addr) (xs : List V), vs = [.ref a] ∧ HeapAt K H a p xs ∧ xs.length ≤ 1000 ∧ RetV (.int xs.length) H Q
def sp_L_cell (K : PySem.W.Frag) : Sp := fun vs H Q _ => ∃ (a : Addr) (ns : List Int) (k : Int), vs = [.ref a, .int k] ∧ SqL K H a (ns.map V.int) ∧ (0 ≤ k ∧ k ≤ 300) ∧ ∀ i : Int, 0 ≤ i → i < 33554432 → RetV (.int i) H Q
def sp_L_mixed : Sp := fun vs H Q _ => ∃ (n k : Int), vs = [.int n, .int k] ∧ (0 ≤ k ∧ k ≤ 300) ∧ ∀ i : Int, 0 ≤ i → i < 33554432 → RetV (.int i) H Q
def sp_L_thing (K : PySem.W.Frag) : Sp := fun vs H Q _ => ∃ (a b : Addr) (n : Int) (xs : List V), vs = [.ref a, .int n, .ref b] ∧ (0 ≤ n ∧ n < 33554432) ∧ H b = some (.lst xs) ∧ (∀ v ∈ xs, Tup H v) ∧ xs.length ≤ 1000 ∧ ∀ v H', Ex H H' → Tup H' v → Q v H'
def sp_law (K : PySem.W.Frag) : Sp := fun vs H Q _ => ∃ (a : Addr) (ns : List Int), vs = [.ref a] ∧ SqL K H a (ns.map V.int) ∧ ns.length ≤ 63 ∧ RetV (.bl true) H Q

theorem len_Heap_init {K : PySem.W.Frag} : ∀ vs H Q E, sp_Heap_init K vs H Q E → vs.length = 1 := by
  intro vs H Q E h
  obtain ⟨_, _, rfl, _⟩ := h
  rfl
theorem len_L_cell {K : PySem.W.Frag} : ∀ vs H Q E, sp_L_cell K vs H Q E → vs.length = 2 := by
  intro vs H Q E h
  obtain ⟨_, _, _, rfl, _⟩ := h
  rfl
theorem len_Heap_take {K : PySem.W.Frag} : ∀ vs H Q E, sp_Heap_take K vs H Q E → vs.length = 1 := by
  intro vs H Q E h
  obtain ⟨_, _, _, rfl, _⟩ := h
  rfl
theorem len_L_mixed : ∀ vs H Q E, sp_L_mixed vs H Q E → vs.length = 2 := by
  intro vs H Q E h
  obtain ⟨_, _, rfl, _⟩ := h
  rfl
theorem len_L_thing {K : PySem.W.Frag} : ∀ vs H Q E, sp_L_thing K vs H Q E → vs.length = 3 := by
  intro vs H Q E h
  obtain ⟨_, _, _, _, rfl, _⟩ := h
  rfl
theorem len_Heap_put {K : PySem.W.Frag} : ∀ vs H Q E, sp_Heap_put K vs H Q E → vs.length = 2 := by
  intro vs H Q E h
  obtain ⟨_, _, _, _, rfl, _⟩ := h
  rfl
theorem len_Heap_size {K : PySem.W.Frag} : ∀ vs H Q E, sp_Heap_size K vs H Q E → vs.length = 1 := by
  intro vs H Q E h
  obtain ⟨_, _, _, rfl, _⟩ := h
  rfl
theorem len_law {K : PySem.W.Frag} : ∀ vs H Q E, sp_law K vs H Q E → vs.length = 1 := by
  intro vs H Q E h
  obtain ⟨_, _, rfl, _⟩ := h
  rfl

/-- Heap_init -/
def rd_Heap_init (K : PySem.W.Frag) : TS :=
  (sFld K (tVar 0) (tLst tNil) "things")


/-- L_cell -/
def rd_L_cell (K : PySem.W.Frag) : TS :=
  (tSeq (tAsg (tC (.int 17)) (gName 2))
    (tSeq (tIfS (tTest (tOp rGtI (tCB (cLenSeq K) (tCons (tVar 0) tNil)) (tC (.int 0)))) (tAsg (tOp rModI (tOp (rIxL K) (tVar 0) (tOp rModI (tVar 1) (tCB (cLenSeq K) (tCons (tVar 0) tNil)))) (tC (.int 2147483647))) (gName 2))
    tNext)
    (tRet (tOp rDivI (tOp rModI (tOp rMulI (tOp rModI (tOp rMulI (tOp rAddI (tOp rAddI (tVar 2) (tOp rMulI (tOp rMulI (tC (.int 7919)) (tVar 1)) (tVar 1))) (tOp rMulI (tC (.int 31)) (tVar 1))) (tC (.int 48271))) (tC (.int 2147483647))) (tC (.int 69621))) (tC (.int 2147483629))) (tC (.int 64))))))


/-- Heap_take -/
def rd_Heap_take (K : PySem.W.Frag) : TS :=
  (tRet (tCB ZH.rPopH (tCons (tFld K (tVar 0) "things") tNil)))


/-- L_mixed -/
def rd_L_mixed : TS :=
  (tRet (tOp rDivI (tOp rModI (tOp rMulI (tOp rModI (tOp rMulI (tOp rAddI (tOp rAddI (tOp rAddI (tVar 0) (tOp rMulI (tOp rMulI (tC (.int 7919)) (tVar 1)) (tVar 1))) (tOp rMulI (tC (.int 31)) (tVar 1))) (tC (.int 1))) (tC (.int 48271))) (tC (.int 2147483647))) (tC (.int 69621))) (tC (.int 2147483629))) (tC (.int 64))))


/-- L_thing -/
def rd_L_thing (K : PySem.W.Frag) : TS :=
  (Evl.tCut (tIfS (tAnd (tTest (tOp (rNeD K) (tVar 2) (tLst tNil))) (tTest (tOp rEq (tOp rModI (tVar 1) (tC (.int 4))) (tC (.int 0))))) (tRet (tOp (rIxL K) (tVar 2) (tOp rModI (tOp rDivI (tVar 1) (tC (.int 4))) (tCB (cLenSeq K) (tCons (tVar 2) tNil)))))
    tNext)
    (Evl.tCut (tIfS (tAnd (tTest (tOp (rNeD K) (tVar 2) (tLst tNil))) (tTest (tOp rEq (tOp rModI (tVar 1) (tC (.int 4))) (tC (.int 1))))) (tSeq (tAsg (tOp (rIxL K) (tVar 2) (tOp rModI (tOp rDivI (tVar 1) (tC (.int 4))) (tCB (cLenSeq K) (tCons (tVar 2) tNil)))) (gName 3))
    (tRet (tOp (rCatA K) (tTup (tCons (tOp rSubI (tOp rAddI (tOp (rIxT K) (tVar 3) (tC (.int 0))) (tOp rModI (tOp rDivI (tVar 1) (tC (.int 64))) (tC (.int 3)))) (tC (.int 1))) tNil)) (tSl (rSlA K) (tVar 3) (tPart (tC (.int 1))) tNoPart))))
    tNext)
    (tSeq (tAsg (tLst tNil) (gName 4))
    (tSeq (tFor (iRng1 (tCons (tOp rAddI (tC (.int 1)) (tOp rModI (tOp rDivI (tVar 1) (tC (.int 4))) (tC (.int 3)))) tNil)) (gName 5) (tSeq (tAsg (tCall sp_L_mixed [] E0 (tCons (tVar 1) (tCons (tVar 5) tNil))) (gName 6))
    (tDrop (tBM K "list" rAppend (tVar 4) (tCons (tOp (rIxL K) (tLst (tCons (tOp rModI (tVar 6) (tC (.int 5))) (tCons (tVar 6) (tCons (tOp rSubI (tC (.int 0)) (tVar 6)) (tCons (tOp rModI (tOp rPowI (tVar 6) (tC (.int 7))) (tOp rPowI (tC (.int 10)) (tC (.int 60)))) tNil))))) (tOp rModI (tVar 6) (tC (.int 4)))) tNil)))))
    (tRet (tCB (cTupOf K) (tCons (tVar 4) tNil)))))))


/-- Heap_put -/
def rd_Heap_put (K : PySem.W.Frag) : TS :=
  (tDrop (tCB ZH.rPush (tCons (tFld K (tVar 0) "things") (tCons (tVar 1) tNil))))


/-- Heap_size -/
def rd_Heap_size (K : PySem.W.Frag) : TS :=
  (tRet (tCB (cLenSeq K) (tCons (tFld K (tVar 0) "things") tNil)))


/-- law -/
def rd_law (K : PySem.W.Frag) : TS :=
  (tSeq (tAsg (tLst (tCons (tMake (He.ga K "Heap") (sp_Heap_init K) [] E0 tNil) (tCons (tMake (He.ga K "Heap") (sp_Heap_init K) [] E0 tNil) tNil))) (gName 1))
    (tSeq (tAsg (tLst (tCons (tLst tNil) (tCons (tLst tNil) tNil))) (gName 2))
    (tSeq (tFor (iRng1 (tCons (tCB cMin2 (tCons (tC (.int 200)) (tCons (tCB (cLenSeq K) (tCons (tVar 0) tNil)) tNil))) tNil)) (gName 3) (tSeq (tAsg (tCall (sp_L_cell K) [] E0 (tCons (tVar 0) (tCons (tVar 3) tNil))) (gName 4))
    (tSeq (tAsg (tOp rModI (tVar 4) (tC (.int 2))) (gName 5))
    (tSeq (tPar 6 7 (tCons (tOp (rIxL K) (tVar 1) (tVar 5)) (tCons (tOp (rIxL K) (tVar 2) (tVar 5)) tNil)))
    (tSeq (tIfS (tAnd (tTest (tOp rLtI (tOp rModI (tOp rDivI (tVar 4) (tC (.int 2))) (tC (.int 5))) (tC (.int 2)))) (tTest (tOp (rNeD K) (tVar 7) (tLst tNil)))) (tIfS (tTest (tOp (rNeD K) (tMeth (He.ga K "Heap") "take" (sp_Heap_take K) [] E0 (tVar 6) tNil) (tBM K "list" rPopAt (tVar 7) (tCons (tC (.int 0)) tNil)))) (tRet (tC (.bl false)))
    tNext)
    (tSeq (tAsg (tCall (sp_L_thing K) [] E0 (tCons (tVar 0) (tCons (tOp rDivI (tVar 4) (tC (.int 10))) (tCons (tOp (rIxL K) (tVar 2) (tOp rModI (tOp rDivI (tVar 4) (tC (.int 10))) (tC (.int 2)))) tNil)))) (gName 8))
    (tSeq (tIfS (tB (tNotN (tMeth (He.ga K "Heap") "put" (sp_Heap_put K) [] E0 (tVar 6) (tCons (tVar 8) tNil)))) (tRet (tC (.bl false)))
    tNext)
    (tSeq (tAsg (tCB (ZS.rSortedTI K) (tCons (tOp rCat (tVar 7) (tLst (tCons (tVar 8) tNil))) tNil)) (gSub (tVar 2) (tVar 5) rSetL))
    (tAsg (tOp (rIxL K) (tVar 2) (tVar 5)) (gName 7))))))
    (tIfS (tOr (tTest (tOp rNe (tMeth (He.ga K "Heap") "size" (sp_Heap_size K) [] E0 (tVar 6) tNil) (tCB (cLenSeq K) (tCons (tVar 7) tNil)))) (tTru K (tCB (rIsi K) (tCons (tMeth (He.ga K "Heap") "size" (sp_Heap_size K) [] E0 (tVar 6) tNil) (tCons (tC (.ty "bool")) tNil))))) (tRet (tC (.bl false)))
    tNext))))))
    (tSeq (tFor (iZip K (tCons (tVar 1) (tCons (tVar 2) tNil))) (gTup K 2 (gCons (gName 6) (gCons (gName 7) gNil))) (tWhile (tTest (tOp (rNeD K) (tVar 7) (tLst tNil))) (tIfS (tOr (tTest (tOp (rNeD K) (tMeth (He.ga K "Heap") "take" (sp_Heap_take K) [] E0 (tVar 6) tNil) (tBM K "list" rPopAt (tVar 7) (tCons (tC (.int 0)) tNil)))) (tTest (tOp rNe (tMeth (He.ga K "Heap") "size" (sp_Heap_size K) [] E0 (tVar 6) tNil) (tCB (cLenSeq K) (tCons (tVar 7) tNil))))) (tRet (tC (.bl false)))
    tNext)))
    (tRet (tAndT K (tOp rEq (tMeth (He.ga K "Heap") "size" (sp_Heap_size K) [] E0 (tOp (rIxL K) (tVar 1) (tC (.int 0))) tNil) (tC (.int 0))) (tOp rEq (tMeth (He.ga K "Heap") "size" (sp_Heap_size K) [] E0 (tOp (rIxL K) (tVar 1) (tC (.int 1))) tNil) (tC (.int 0)))))))))

section
variable {K : PySem.W.Frag}
theorem tk_same {H H' : Hp} {v : V} (h : Tup H v) (e : ∀ t xs, v = .ref t → H t = some (.tup xs) → H' t = some (.tup xs)) : Tup H' v ∧ tk H' v = tk H v := by
  obtain ⟨t, l, rfl, h1, h2, h3⟩ := h
  have h1' := e t _ rfl h1
  refine ⟨⟨t, l, rfl, h1', h2, h3⟩, ?_⟩
  show (match H' t with
    | some (.tup xs) => iL xs
    | _ => []) = (match H t with
    | some (.tup xs) => iL xs
    | _ => [])
  rw [h1, h1']
theorem heap_same {H H' : Hp} {l : List V} (h : ∀ v ∈ l, tk H' v = tk H v) (q : ZH.HeapL (tk H) l) : ZH.HeapL (tk H') l := fun i h0 h1 => by
  have m : ∀ i, i < l.length → tk H' (ZH.atv l i) = tk H (ZH.atv l i) := fun i hi => h _ (by
    unfold ZH.atv
    rw [List.getD_eq_getElem?_getD, List.getElem?_eq_getElem hi]
    exact List.getElem_mem hi)
  have z := q i h0 h1
  show lexL (tk H' _) (tk H' _) = false
  rw [m i h1, m _ (by omega)]
  exact z
theorem but_upd {H : Hp} {a p : Addr} {o : HO} (h : p ∈ [a, p]) : But [a, p] H (upd H p o) := fun b o' hb e => by
  rw [upd_ne fun z => hb (by rw [z]; exact h)]
  exact e
theorem heap_at {H : Hp} {a p : Addr} {xs ys : List V} {dx : Addr} (ia : H a = some (.ins (HC K) dx [("things", .ref p)])) (lp : H p = some (.lst xs)) (ty : ∀ v ∈ ys, Tup H v) (hh : ZH.HeapL (tk H) ys) : HeapAt K (upd H p (.lst ys)) a p ys := by
  have nb : ∀ {t : Addr} {o : HO}, H t = some o → (∀ l, o ≠ .lst l) → upd H p (.lst ys) t = some o := fun {t o} ht n => by
    rw [upd_ne fun z => by
      rw [z, lp] at ht
      cases ht
      exact n _ rfl]
    exact ht
  have tt : ∀ {v}, Tup H v → Tup (upd H p (.lst ys)) v ∧ tk (upd H p (.lst ys)) v = tk H v := fun {v} h => tk_same h fun t xs _ ht => nb ht fun _ z => by cases z
  exact ⟨dx, nb ia fun _ z => by (cases z), upd_same, fun v hv => (tt (ty v hv)).1, heap_same (fun v hv => (tt (ty v hv)).2) hh⟩
theorem are_tk {H : Hp} {xs : List V} (h : ∀ v ∈ xs, Tup H v) : ZH.AreT H (tk H) xs := fun x hx => by
  obtain ⟨t, e, ht, _, _⟩ := (h x hx).tk
  exact ⟨t, e, ht⟩
theorem vr_Heap_init (k_Heap : Cls K (He.ga K "Heap")) (a_Heap_things : NoAttr K (He.ga K "Heap") "things") (vs H Q E) (h : sp_Heap_init K vs H Q E) : (rd_Heap_init K) { nx := fun _ H' => Q .non H', rt := Q } (start ["self"] vs) H := by
  obtain ⟨a, dx, rfl, h, q⟩ := h
  unfold rd_Heap_init
  walk_at "zz"
  refine ⟨szl (by decide), fun p hp => ?_⟩
  have e := Ex.new (o := .lst []) hp
  walk_at "zz"
  refine z_fldW (e _ _ h) k_Heap a_Heap_things (by decide) ?_
  refine q _ p hp ⟨dx, ?_, ?_, fun v hv => (by cases hv), fun i _ h => (by cases h)⟩ fun b o hb hbo => ?_
  · exact upd_same
  · rw [upd_ne fun z => by rw [z, h] at hp; cases hp]
    exact upd_same
  · rw [upd_ne fun z => hb (by rw [z]; exact List.mem_cons_self)]
    exact e _ _ hbo
theorem vr_Heap_put (k_Heap : Cls K (He.ga K "Heap")) (a_Heap_things : NoAttr K (He.ga K "Heap") "things") (vs H Q E) (h : sp_Heap_put K vs H Q E) : (rd_Heap_put K) { nx := fun _ H' => Q .non H', rt := Q } (start ["self", "thing"] vs) H := by
  obtain ⟨a, p, v, xs, rfl, h, hv, hl, q⟩ := h
  obtain ⟨dx, ia, lp, ts, hh⟩ := id h
  unfold rd_Heap_put
  walk_at "zz"
  refine z_fldR ia k_Heap a_Heap_things rfl ?_
  walk_at "zz"
  have ty : ∀ u ∈ v :: xs, Tup H u := fun u hu => by
    rcases List.mem_cons.mp hu with rfl | hu
    · exact hv
    · exact ts u hu
  refine ⟨p, v, xs, tk H, rfl, lp, by omega, are_tk ty, hh, fun ys pm hy => ?_⟩
  exact q _ ys (heap_at ia lp (fun u hu => ty u (pm.mem_iff.mp hu)) hy) pm (but_upd (by simp))
theorem vr_Heap_take (k_Heap : Cls K (He.ga K "Heap")) (a_Heap_things : NoAttr K (He.ga K "Heap") "things") (vs H Q E) (h : sp_Heap_take K vs H Q E) : (rd_Heap_take K) { nx := fun _ H' => Q .non H', rt := Q } (start ["self"] vs) H := by
  obtain ⟨a, p, xs, rfl, h, hn, hl, q⟩ := h
  obtain ⟨dx, ia, lp, ts, hh⟩ := id h
  unfold rd_Heap_take
  walk_at "zz"
  refine z_fldR ia k_Heap a_Heap_things rfl ?_
  walk_at "zz"
  refine ⟨p, xs, tk H, rfl, lp, hn, by omega, are_tk ts, hh, fun v ys pm hy le => ?_⟩
  exact q _ v ys (heap_at ia lp (fun u hu => ts u (pm.mem_iff.mpr (List.mem_cons_of_mem _ hu))) hy) pm le (but_upd (by simp))
theorem vr_Heap_size (k_Heap : Cls K (He.ga K "Heap")) (a_Heap_things : NoAttr K (He.ga K "Heap") "things") (vs H Q E) (h : sp_Heap_size K vs H Q E) : (rd_Heap_size K) { nx := fun _ H' => Q .non H', rt := Q } (start ["self"] vs) H := by
  obtain ⟨a, p, xs, rfl, h, hl, q⟩ := h
  obtain ⟨dx, ia, lp, ts, hh⟩ := id h
  unfold rd_Heap_size
  walk_at "zz"
  refine z_fldR ia k_Heap a_Heap_things rfl ?_
  walk_at "zz"
  refine z_lenL (sq_of lp) ?_
  exact RetV.go q (Ex.refl H)
theorem vr_L_cell (vs H Q E) (h : sp_L_cell K vs H Q E) : (rd_L_cell K) { nx := fun _ H' => Q .non H', rt := Q } (start ["_law_script", "_law_k", "_law_cell_here"] vs) H := by
  obtain ⟨a, ns, k, rfl, ha, hk, q⟩ := h
  unfold rd_L_cell
  walk_at "zz"
  refine z_lenL ha ?_
  walk_at "zz"
  refine ite_b (fun h => ?_) (fun h => ?_)
  · have hl := of_decide_eq_true h
    walk_at "zz"
    refine z_lenL ha ?_
    walk_at "zz"
    obtain ⟨v, hv, hm⟩ := at_some (l := ns.map V.int) (i := k % (ns.map V.int).length) (Int.emod_nonneg _ (by omega)) (Int.emod_lt_of_pos _ hl)
    obtain ⟨i, _, rfl⟩ := List.mem_map.mp hm
    refine z_ixL ha hv ?_
    walk_at "zz"
    exact RetV.go (q _ (by omega) (by omega)) (Ex.refl H)
  · walk_at "zz"
    exact RetV.go (q _ (by omega) (by omega)) (Ex.refl H)
theorem vr_L_mixed (vs H Q E) (h : sp_L_mixed vs H Q E) : rd_L_mixed { nx := fun _ H' => Q .non H', rt := Q } (start ["_law_number", "_law_k"] vs) H := by
  obtain ⟨n, k, rfl, hk, q⟩ := h
  unfold rd_L_mixed
  walk_at "zz"
  exact RetV.go (q _ (by omega) (by omega)) (Ex.refl H)
theorem Tup.mono {H H' : Hp} {v : V} (e : Ex H H') (h : Tup H v) : Tup H' v := by
  obtain ⟨t, l, rfl, h1, h2, h3⟩ := h
  exact ⟨t, l, rfl, e _ _ h1, h2, h3⟩
theorem Tup.dp {H : Hp} {v : V} (h : Tup H v) : ∃ d, Dp K H v d ∧ cl d = true ∧ d.depth ≤ 1 := by
  obtain ⟨t, l, rfl, h1, _, _⟩ := h
  refine ⟨.tuple (l.map PyData.int), .tup (st_of h1) (dp_ints l), cl_ints l, ?_⟩
  show PyData.depthAll (l.map PyData.int) + 1 ≤ 1
  rw [depth_ints]
  decide
theorem tups_dp {H : Hp} : ∀ {xs : List V}, (∀ v ∈ xs, Tup H v) → ∃ ds, DpAll K H xs ds ∧ clAll ds = true ∧ PyData.depthAll ds ≤ 1
  | [], _ => ⟨[], .nil, rfl, Nat.zero_le _⟩
  | v :: xs, h => by
    obtain ⟨d, a, b, c⟩ := Tup.dp (K := K) (h v List.mem_cons_self)
    obtain ⟨ds, a2, b2, c2⟩ := tups_dp fun u hu => h u (List.mem_cons_of_mem _ hu)
    refine ⟨d :: ds, .cons a a2, ?_, ?_⟩
    · show (cl d && clAll ds) = true
      rw [b, b2] <;> rfl
    · show max d.depth (PyData.depthAll ds) ≤ 1
      omega
theorem cutV_from (xs : List V) (n : Nat) : cutV xs (some (n : Int)) none = xs.drop n := by
  unfold cutV
  rw [HT.sIx_none, HT.sIx_nat]
  by_cases h : n ≤ xs.length
  · rw [Nat.min_eq_left h, List.take_of_length_le (by rw [List.length_drop]; omega)]
  · rw [Nat.min_eq_right (by omega), List.drop_eq_nil_of_le (Nat.le_refl _), List.drop_eq_nil_of_le (by omega), List.take_nil]
/-- xs != [] of tuples -/
theorem z_neTups {H : Hp} {Q : VK} {b c : Addr} {xs : List V} (hb : SqL K H b xs) (ht : ∀ v ∈ xs, Tup H v) (hc : SqL K H c []) (q : Q (.bl (!xs.isEmpty)) H) : rNeD K (.ref b) (.ref c) H Q := by
  obtain ⟨ds, d1, d2, d3⟩ := tups_dp (K := K) ht
  exact z_neNil hb d1 hc d2 (by omega) q
theorem vr_L_thing (vs H Q E) (h : sp_L_thing K vs H Q E) : (rd_L_thing K) { nx := fun _ H' => Q .non H', rt := Q } (start ["_law_script", "_law_number", "_law_there", "_law_one", "_law_some", "_law_k", "_law_more"] vs) H := by
  obtain ⟨a, b, n, xs, rfl, hn, hb, ht, hl, q⟩ := h
  unfold rd_L_thing
  refine z_cut (fun σ' H' => σ' = [some (.ref a), some (.int n), some (.ref b), none, none, none, none] ∧ Ex H H') ?_ (fun σ' H' h1 => ?_)
  · walk_at "zz"
    refine ⟨szl (by simp), fun c hc => ?_⟩
    have e1 : Ex H (upd H c (.lst [])) := Ex.new hc
    refine z_neTups (sq_of (e1 _ _ hb)) (fun v hv => (ht v hv).mono e1) (sq_of upd_same) ?_
    walk_at "zz"
    refine ite_b (fun h => ?_) (fun h => ?_)
    · have hpos : 0 < xs.length := by
        cases xs with
        | nil => cases h
        | cons _ _ => simp
      walk_at "zz"
      refine ite_b (fun _ => ?_) (fun _ => ?_)
      · walk_at "zz"
        refine z_lenL (sq_of (e1 _ _ hb)) ?_
        refine z_i (show (0 : Int) < _ by omega) ?_
        obtain ⟨v, hv, hm⟩ := at_some (l := xs) (i := n / 4 % xs.length) (Int.emod_nonneg _ (by omega)) (Int.emod_lt_of_pos _ (by omega))
        refine z_ixL (sq_of (e1 _ _ hb)) hv ?_
        exact q v _ e1 ((ht v hm).mono e1)
      · walk_at "zz"
        exact ⟨rfl, e1⟩
    · walk_at "zz"
      exact ⟨rfl, e1⟩
  obtain ⟨rfl, e0⟩ := h1
  refine z_cut (fun σ' H2 => σ' = [some (.ref a), some (.int n), some (.ref b), none, none, none, none] ∧ Ex H H2) ?_ (fun σ' H2 h1 => ?_)
  · walk_at "zz"
    refine ⟨szl (by simp), fun c hc => ?_⟩
    have e1 : Ex H (upd H' c (.lst [])) := e0.trans (Ex.new hc)
    refine z_neTups (sq_of (e1 _ _ hb)) (fun v hv => (ht v hv).mono e1) (sq_of upd_same) ?_
    walk_at "zz"
    refine ite_b (fun h => ?_) (fun h => ?_)
    · have hpos : 0 < xs.length := by
        cases xs with
        | nil => cases h
        | cons _ _ => simp
      walk_at "zz"
      refine ite_b (fun _ => ?_) (fun _ => ?_)
      · walk_at "zz"
        refine z_lenL (sq_of (e1 _ _ hb)) ?_
        refine z_i (show (0 : Int) < _ by omega) ?_
        obtain ⟨v, hv, hm⟩ := at_some (l := xs) (i := n / 4 % xs.length) (Int.emod_nonneg _ (by omega)) (Int.emod_lt_of_pos _ (by omega))
        refine z_ixL (sq_of (e1 _ _ hb)) hv ?_
        obtain ⟨t, l, rfl, htl, hne, hl3⟩ := (ht v hm).mono e1
        obtain ⟨i, r, rfl⟩ : ∃ i r, l = i :: r := by
          cases l with
          | nil => exact absurd rfl hne
          | cons i r => exact ⟨i, r, rfl⟩
        walk_at "zz"
        refine z_ixT (st_of htl) (v := .int i) (show atI ((i :: r).map V.int) ((0 : Nat) : Int) = _ from atI_nat rfl) ?_
        walk_at "zz"
        refine ⟨szl (by simp), fun t1 ht1 => ?_⟩
        walk_at "zz"
        refine ⟨t, _, rfl, st_of (Ex.new ht1 _ _ htl), fun hw => ?_, fun _ t2 ht2 => ?_⟩
        · have := hw.1
          rw [show (some (1 : Int)) = some ((1 : Nat) : Int) from rfl, HT.sIx_nat, List.length_map, List.length_cons] at this
          omega
        · rw [show (some (1 : Int)) = some ((1 : Nat) : Int) from rfl, cutV_from, List.map_cons, List.drop_one, List.tail_cons]
          have ne : t1 ≠ t2 := fun z => by
            rw [z, upd_same] at ht2
            cases ht2
          have g1 : upd (upd (upd H' c (.lst [])) t1 (.tup [.int (i + n / 64 % 3 - 1)])) t2 (.tup (r.map V.int)) t1 = some (.tup [.int (i + n / 64 % 3 - 1)]) := by
            rw [upd_ne ne]
            exact upd_same
          have e2 : Ex H (upd (upd (upd H' c (.lst [])) t1 (.tup [.int (i + n / 64 % 3 - 1)])) t2 (.tup (r.map V.int))) := (e1.trans (Ex.new ht1)).trans (Ex.new ht2)
          refine ⟨t1, t2, [.int (i + n / 64 % 3 - 1)], r.map V.int, rfl, rfl, st_of g1, st_of upd_same, szl (by simp at *; omega), fun h => (by cases h), fun _ _ => q _ _ e2 ⟨t1, [i + n / 64 % 3 - 1], rfl, g1, by simp, by simp⟩, fun _ _ t3 ht3 => q _ _ (e2.trans (Ex.new ht3)) ⟨t3, (i + n / 64 % 3 - 1) :: r, rfl, upd_same, by simp, by simpa using hl3⟩⟩
      · walk_at "zz"
        exact ⟨rfl, e1⟩
    · walk_at "zz"
      exact ⟨rfl, e1⟩
  obtain ⟨rfl, e2⟩ := h1
  walk_at "zz"
  refine ⟨szl (by simp), fun p hp => ?_⟩
  walk_at "zz"
  refine z_FR1 (by omega) (fun i σ' H3 => ∃ (l : List Int) (y5 y6 : Option V), σ' = [some (.ref a), some (.int n), some (.ref b), none, some (.ref p), y5, y6] ∧ Ex H2 H3 ∧ H3 p = some (.lst (l.map V.int)) ∧ l.length = i) ⟨[], none, none, rfl, Ex.new hp, upd_same, rfl⟩ (fun i σ' H3 hi h => ?_) (fun σ' H3 h => ?_)
  · obtain ⟨l, y5, y6, rfl, e3, h3, hli⟩ := h
    walk_at "zz"
    refine ⟨n, i, rfl, ⟨by omega, by omega⟩, fun m hm0 hm1 H4 e4 => ?_⟩
    walk_at "zz"
    refine z_tyl (sq_of (e4 _ _ h3)) ?_
    walk_at "zz"
    refine z_i (show CPow m 7 from ⟨by decide, by decide, by omega⟩) ?_
    walk_at "zz"
    refine z_i (show (0 : Int) < _ by decide) ?_
    walk_at "zz"
    refine ⟨szl (by simp), fun c hc => ?_⟩
    walk_at "zz"
    obtain ⟨v, hv, hvm⟩ := at_some (l := [V.int (m % 5), V.int m, V.int (0 - m), V.int (m ^ (7 : Int).toNat % 10 ^ (60 : Int).toNat)]) (i := m % 4) (by omega) (by show _ < ((4 : Nat) : Int); omega)
    obtain ⟨j, rfl⟩ : ∃ j, v = .int j := by
      simp only [List.mem_cons, List.not_mem_nil, or_false] at hvm
      rcases hvm with rfl | rfl | rfl | rfl <;> exact ⟨_, rfl⟩
    refine z_ixL (sq_of upd_same) hv ?_
    walk_at "zz"
    have ep : H2 p = none := hp
    refine z_rapp (Ex.new hc _ _ (e4 _ _ h3)) (by rw [List.length_map]; exact szlt (by omega)) ?_
    walk_at "zz"
    refine ⟨l ++ [j], _, _, rfl, Ex.mut ((e3.trans e4).trans (Ex.new hc)) ep, ?_, by rw [List.length_append, hli] <;> rfl⟩
    rw [upd_same, List.map_append] <;> rfl
  · obtain ⟨l, y5, y6, rfl, e3, h3, hli⟩ := h
    walk_at "zz"
    refine ⟨p, _, rfl, .inl ⟨sq_of h3, fun t htt => ?_⟩⟩
    refine q _ _ ((e2.trans e3).trans (Ex.new htt)) ⟨t, l, rfl, upd_same, fun z => ?_, by omega⟩
    rw [z] at hli
    simp at hli
    omega
/-- where all stands: two heaps, two lists of one's own -/
structure Wd (K : PySem.W.Frag) (H0 H : Hp) (lh lo : Addr) (A P O : Bool → Addr) (X Y : Bool → List V) (Z Z' : Bool → List (List Int)) : Prop where
  e : Ex H0 H
  fl : H0 lh = none
  fo : H0 lo = none
  fA : ∀ b, H0 (A b) = none
  fP : ∀ b, H0 (P b) = none
  fO : ∀ b, H0 (O b) = none
  hl : H lh = some (.lst [.ref (A false), .ref (A true)])
  ho : H lo = some (.lst [.ref (O false), .ref (O true)])
  hp : ∀ b, HeapAt K H (A b) (P b) (X b)
  oo : ∀ b, H (O b) = some (.lst (Y b))
  ty : ∀ b, ∀ v ∈ Y b, Tup H v
  so : ∀ b, (Y b).Pairwise fun x y => lexL (tk H y) (tk H x) = false
  px : ∀ b, ((X b).map (tk H)).Perm (Z b)
  py : ∀ b, ((Y b).map (tk H)).Perm (Z' b)
  iA : A false ≠ A true
  iP : P false ≠ P true
  iO : O false ≠ O true
  po : ∀ b c, P b ≠ O c
  lP : ∀ b, lh ≠ P b
  lO : ∀ b, lh ≠ O b
  oP : ∀ b, lo ≠ P b
  oO : ∀ b, lo ≠ O b
  ll : lh ≠ lo
section
variable {H0 H H' : Hp} {lh lo : Addr} {A P O : Bool → Addr} {X Y : Bool → List V} {Z Z' : Bool → List (List Int)}
theorem inj2 {f : Bool → Addr} (h : f false ≠ f true) {b c : Bool} (n : b ≠ c) : f b ≠ f c := by
  cases b <;> cases c <;> first | exact absurd rfl n | exact h | exact h.symm
theorem Wd.ins (W : Wd K H0 H lh lo A P O X Y Z Z') (b : Bool) : ∃ dx, H (A b) = some (.ins (HC K) dx [("things", .ref (P b))]) := by
  obtain ⟨dx, h, _⟩ := W.hp b
  exact ⟨dx, h⟩
theorem srt_same {l : List V} (h : ∀ v ∈ l, tk H' v = tk H v) (s : l.Pairwise fun x y => lexL (tk H y) (tk H x) = false) : l.Pairwise fun x y => lexL (tk H' y) (tk H' x) = false :=
  List.Pairwise.imp_of_mem (fun {a b} ha hb r => by rw [h a ha, h b hb]; exact r) s
theorem map_same {l : List V} (h : ∀ v ∈ l, tk H' v = tk H v) : l.map (tk H') = l.map (tk H) := List.map_congr_left h
/-- a heap at w was changed -/
theorem Wd.but (W : Wd K H0 H lh lo A P O X Y Z Z') (w : Bool) (u : But [A w, P w] H H') (X1 : List V) (z1 : List (List Int)) (h1 : HeapAt K H' (A w) (P w) X1) (h2 : (X1.map (tk H')).Perm z1) : Wd K H0 H' lh lo A P O (fun b => if b = w then X1 else X b) Y (fun b => if b = w then z1 else Z b) Z' := by
  obtain ⟨dw, iw, lw, _⟩ := W.hp w
  have nb : ∀ {t : Addr} {o : HO}, H t = some o → (∀ C dx fs, o ≠ .ins C dx fs) → t ≠ P w → H' t = some o := fun {t o} ht hi hp => u t o (fun z => by
    rcases List.mem_cons.mp z with z | z
    · rw [z, iw] at ht
      cases ht
      exact hi _ _ _ rfl
    · exact hp (by simpa using z)) ht
  have tt : ∀ {v}, Tup H v → Tup H' v ∧ tk H' v = tk H v := fun {v} h => tk_same h fun t xs _ ht => nb ht (fun _ _ _ z => by cases z) fun z => by
    rw [z, lw] at ht
    cases ht
  have ty' : ∀ b, ∀ v ∈ Y b, Tup H' v ∧ tk H' v = tk H v := fun b v hv => tt (W.ty b v hv)
  refine ⟨fun b o hb => ?_, W.fl, W.fo, W.fA, W.fP, W.fO, nb W.hl (fun _ _ _ z => by cases z) (W.lP w), nb W.ho (fun _ _ _ z => by cases z) (W.oP w), fun b => ?_, fun b => nb (W.oo b) (fun _ _ _ z => by cases z) (fun z => W.po w b z.symm), fun b v hv => (ty' b v hv).1, fun b => srt_same (fun v hv => (ty' b v hv).2) (W.so b), fun b => ?_, fun b => by rw [map_same fun v hv => (ty' b v hv).2]; exact W.py b, W.iA, W.iP, W.iO, W.po, W.lP, W.lO, W.oP, W.oO, W.ll⟩
  · refine u b o (fun z => ?_) (W.e b o hb)
    rcases List.mem_cons.mp z with z | z
    · rw [z, W.fA] at hb
      cases hb
    · rw [show b = P w by simpa using z, W.fP] at hb
      cases hb
  · by_cases h : b = w
    · subst h
      show HeapAt K H' (A b) (P b) (if b = b then X1 else X b)
      rw [if_pos rfl]
      exact h1
    · show HeapAt K H' (A b) (P b) (if b = w then X1 else X b)
      rw [if_neg h]
      obtain ⟨dx, i, l, ts⟩ := W.hp b
      refine ⟨dx, u _ _ (fun z => ?_) i, nb l (fun _ _ _ z => by cases z) (inj2 W.iP h), fun v hv => (tt (ts.1 v hv)).1, heap_same (fun v hv => (tt (ts.1 v hv)).2) ts.2⟩
      rcases List.mem_cons.mp z with z | z
      · exact inj2 W.iA h z
      · rw [show A b = P w by simpa using z, lw] at i
        cases i
  · show ((if b = w then X1 else X b).map (tk H')).Perm (if b = w then z1 else Z b)
    by_cases h : b = w
    · rw [if_pos h, if_pos h]
      exact h2
    · rw [if_neg h, if_neg h]
      obtain ⟨_, _, _, ts⟩ := W.hp b
      rw [map_same fun v hv => (tt (ts.1 v hv)).2]
      exact W.px b
/-- nothing that is known was changed -/
theorem Wd.ex (W : Wd K H0 H lh lo A P O X Y Z Z') (e : Ex H H') : Wd K H0 H' lh lo A P O X Y Z Z' := by
  have tt : ∀ {v}, Tup H v → Tup H' v ∧ tk H' v = tk H v := fun {v} h => tk_same h fun t xs _ ht => e _ _ ht
  refine ⟨W.e.trans e, W.fl, W.fo, W.fA, W.fP, W.fO, e _ _ W.hl, e _ _ W.ho, fun b => ?_, fun b => e _ _ (W.oo b), fun b v hv => (tt (W.ty b v hv)).1, fun b => srt_same (fun v hv => (tt (W.ty b v hv)).2) (W.so b), fun b => ?_, fun b => by rw [map_same fun v hv => (tt (W.ty b v hv)).2]; exact W.py b, W.iA, W.iP, W.iO, W.po, W.lP, W.lO, W.oP, W.oO, W.ll⟩
  · obtain ⟨dx, i, l, ts⟩ := W.hp b
    exact ⟨dx, e _ _ i, e _ _ l, fun v hv => (tt (ts.1 v hv)).1, heap_same (fun v hv => (tt (ts.1 v hv)).2) ts.2⟩
  · obtain ⟨_, _, _, ts⟩ := W.hp b
    rw [map_same fun v hv => (tt (ts.1 v hv)).2]
    exact W.px b
/-- a list of one's own was changed; the numbers agree again -/
theorem Wd.own (W : Wd K H0 H lh lo A P O X Y Z Z') (w : Bool) (Y1 : List V) (z1 : List (List Int)) (t1 : ∀ v ∈ Y1, Tup H v) (s1 : Y1.Pairwise fun x y => lexL (tk H y) (tk H x) = false) (p1 : (Y1.map (tk H)).Perm z1) :
    Wd K H0 (upd H (O w) (.lst Y1)) lh lo A P O X (fun b => if b = w then Y1 else Y b) Z (fun b => if b = w then z1 else Z' b) := by
  have nb : ∀ {t : Addr} {o : HO}, H t = some o → t ≠ O w → upd H (O w) (.lst Y1) t = some o := fun {t o} ht n => by
    rw [upd_ne n]
    exact ht
  have tt : ∀ {v}, Tup H v → Tup (upd H (O w) (.lst Y1)) v ∧ tk (upd H (O w) (.lst Y1)) v = tk H v := fun {v} h => tk_same h fun t xs _ ht => nb ht fun z => by
    rw [z, W.oo w] at ht
    cases ht
  have hx' : ∀ b X2, HeapAt K H (A b) (P b) X2 → HeapAt K (upd H (O w) (.lst Y1)) (A b) (P b) X2 := fun b X2 ⟨dx, i, l, ts⟩ => ⟨dx, nb i (fun z => by rw [z, W.oo w] at i; cases i), nb l (W.po b w), fun v hv => (tt (ts.1 v hv)).1, heap_same (fun v hv => (tt (ts.1 v hv)).2) ts.2⟩
  refine ⟨Ex.mut W.e (W.fO w), W.fl, W.fo, W.fA, W.fP, W.fO, nb W.hl (W.lO w), nb W.ho (W.oO w), fun b => hx' b _ (W.hp b), fun b => ?_, fun b v hv => ?_, fun b => ?_, fun b => ?_, fun b => ?_, W.iA, W.iP, W.iO, W.po, W.lP, W.lO, W.oP, W.oO, W.ll⟩
  · by_cases h : b = w
    · subst h
      show upd H (O b) (.lst Y1) (O b) = some (.lst (if b = b then Y1 else Y b))
      rw [if_pos rfl]
      exact upd_same
    · show upd H (O w) (.lst Y1) (O b) = some (.lst (if b = w then Y1 else Y b))
      rw [if_neg h]
      exact nb (W.oo b) (inj2 W.iO h)
  · by_cases h : b = w
    · have hv' : v ∈ (if b = w then Y1 else Y b) := hv
      rw [if_pos h] at hv'
      exact (tt (t1 v hv')).1
    · have hv' : v ∈ (if b = w then Y1 else Y b) := hv
      rw [if_neg h] at hv'
      exact (tt (W.ty b v hv')).1
  · by_cases h : b = w
    · show (if b = w then Y1 else Y b).Pairwise _
      rw [if_pos h]
      exact srt_same (fun v hv => (tt (t1 v hv)).2) s1
    · show (if b = w then Y1 else Y b).Pairwise _
      rw [if_neg h]
      exact srt_same (fun v hv => (tt (W.ty b v hv)).2) (W.so b)
  · obtain ⟨_, _, _, ts⟩ := W.hp b
    rw [map_same fun v hv => (tt (ts.1 v hv)).2]
    exact W.px b
  · show ((if b = w then Y1 else Y b).map _).Perm (if b = w then z1 else Z' b)
    by_cases h : b = w
    · rw [if_pos h, if_pos h, map_same fun v hv => (tt (t1 v hv)).2]
      exact p1
    · rw [if_neg h, if_neg h, map_same fun v hv => (tt (W.ty b v hv)).2]
      exact W.py b
/-- another list in its place -/
theorem Wd.set (W : Wd K H0 H lh lo A P O X Y Z Z') (w : Bool) (r : Addr) (Y1 : List V) (z1 : List (List Int)) (hr : H r = none) (t1 : ∀ v ∈ Y1, Tup H v) (s1 : Y1.Pairwise fun x y => lexL (tk H y) (tk H x) = false) (p1 : (Y1.map (tk H)).Perm z1) :
    Wd K H0 (upd (upd H r (.lst Y1)) lo (.lst [.ref (if false = w then r else O false), .ref (if true = w then r else O true)])) lh lo A P (fun b => if b = w then r else O b) X (fun b => if b = w then Y1 else Y b) Z (fun b => if b = w then z1 else Z' b) := by
  have fr : H0 r = none := fresh_back W.e hr
  have nr : ∀ {t : Addr} {o : HO}, H t = some o → t ≠ r := fun {t o} ht z => by
    rw [z, hr] at ht
    cases ht
  have nb : ∀ {t : Addr} {o : HO}, H t = some o → t ≠ lo → upd (upd H r (.lst Y1)) lo (.lst [.ref (if false = w then r else O false), .ref (if true = w then r else O true)]) t = some o := fun {t o} ht n => by
    rw [upd_ne n, upd_ne (nr ht)]
    exact ht
  have tt : ∀ {v}, Tup H v → Tup (upd (upd H r (.lst Y1)) lo (.lst [.ref (if false = w then r else O false), .ref (if true = w then r else O true)])) v ∧ tk (upd (upd H r (.lst Y1)) lo (.lst [.ref (if false = w then r else O false), .ref (if true = w then r else O true)])) v = tk H v := fun {v} h => tk_same h fun t xs _ ht => nb ht fun z => by
    rw [z, W.ho] at ht
    cases ht
  have hx' : ∀ b X2, HeapAt K H (A b) (P b) X2 → HeapAt K (upd (upd H r (.lst Y1)) lo (.lst [.ref (if false = w then r else O false), .ref (if true = w then r else O true)])) (A b) (P b) X2 := fun b X2 ⟨dx, i, l, ts⟩ => ⟨dx, nb i (fun z => by rw [z, W.ho] at i; cases i), nb l (fun z => W.oP b z.symm), fun v hv => (tt (ts.1 v hv)).1, heap_same (fun v hv => (tt (ts.1 v hv)).2) ts.2⟩
  have rlo : r ≠ lo := fun z => nr W.ho z.symm
  refine ⟨Ex.mut (Ex.mut W.e fr) W.fo, W.fl, W.fo, W.fA, W.fP, fun b => ?_, nb W.hl W.ll, upd_same, fun b => hx' b _ (W.hp b), fun b => ?_, fun b v hv => ?_, fun b => ?_, fun b => ?_, fun b => ?_, W.iA, W.iP, ?_, fun b c => ?_, W.lP, fun b => ?_, W.oP, fun b => ?_, W.ll⟩
  · show H0 (if b = w then r else O b) = none
    split
    · exact fr
    · exact W.fO b
  · show upd (upd H r (.lst Y1)) lo _ (if b = w then r else O b) = some (.lst (if b = w then Y1 else Y b))
    by_cases h : b = w
    · rw [if_pos h, if_pos h, upd_ne rlo]
      exact upd_same
    · rw [if_neg h, if_neg h]
      exact nb (W.oo b) fun z => W.oO b z.symm
  · have hv' : v ∈ (if b = w then Y1 else Y b) := hv
    by_cases h : b = w
    · rw [if_pos h] at hv'
      exact (tt (t1 v hv')).1
    · rw [if_neg h] at hv'
      exact (tt (W.ty b v hv')).1
  · show (if b = w then Y1 else Y b).Pairwise _
    by_cases h : b = w
    · rw [if_pos h]
      exact srt_same (fun v hv => (tt (t1 v hv)).2) s1
    · rw [if_neg h]
      exact srt_same (fun v hv => (tt (W.ty b v hv)).2) (W.so b)
  · obtain ⟨_, _, _, ts⟩ := W.hp b
    rw [map_same fun v hv => (tt (ts.1 v hv)).2]
    exact W.px b
  · show ((if b = w then Y1 else Y b).map _).Perm (if b = w then z1 else Z' b)
    by_cases h : b = w
    · rw [if_pos h, if_pos h, map_same fun v hv => (tt (t1 v hv)).2]
      exact p1
    · rw [if_neg h, if_neg h, map_same fun v hv => (tt (W.ty b v hv)).2]
      exact W.py b
  · show (if false = w then r else O false) ≠ (if true = w then r else O true)
    cases w
    · rw [if_pos rfl, if_neg (by decide)]
      exact fun z => nr (W.oo true) z.symm
    · rw [if_neg (by decide), if_pos rfl]
      exact nr (W.oo false)
  · show P b ≠ (if c = w then r else O c)
    split
    · obtain ⟨_, _, l, _⟩ := W.hp b
      exact nr l
    · exact W.po b c
  · show lh ≠ (if b = w then r else O b)
    split
    · exact nr W.hl
    · exact W.lO b
  · show lo ≠ (if b = w then r else O b)
    split
    · exact nr W.ho
    · exact W.oO b
theorem lexL_refl : ∀ l : List Int, lexL l l = false
  | [] => rfl
  | x :: l => by
    rw [lexL_cons, if_pos rfl]
    exact lexL_refl l
theorem Wd.tt (W : Wd K H0 H lh lo A P O X Y Z Z') {w : Bool} (u : But [A w, P w] H H') {v : V} (h : Tup H v) : Tup H' v ∧ tk H' v = tk H v := by
  obtain ⟨dw, iw, lw, _⟩ := W.hp w
  refine tk_same h fun t xs _ ht => u t _ (fun z => ?_) ht
  rcases List.mem_cons.mp z with z | z
  · rw [z, iw] at ht
    cases ht
  · rw [show t = P w by simpa using z, lw] at ht
    cases ht
theorem Wd.lenXY (W : Wd K H0 H lh lo A P O X Y Z Z) (b : Bool) : (X b).length = (Y b).length := by
  have := ((W.px b).trans (W.py b).symm).length_eq
  rwa [List.length_map, List.length_map] at this
theorem noF {m : Str} {v : V} (h : (m == ("things" : Str)) = false) : List.lookup m [(("things" : Str), v)] = none := by
  rw [List.lookup_cons, h] <;> rfl
/-- the least one goes from both -/
theorem z_takepop {σ : L2.St} {Q : VK} (W : Wd K H0 H lh lo A P O X Y Z Z) (w : Bool) (h6 : σ[6]? = some (some (.ref (A w)))) (h7 : σ[7]? = some (some (.ref (O w)))) (ne : Y w ≠ []) (len : (Y w).length ≤ 1000)
    (q : ∀ H' X' Y' Z', Wd K H0 H' lh lo A P O X' Y' Z' Z' → (Y' w).length + 1 = (Y w).length → (∀ b, b ≠ w → Y' b = Y b) → Q (.bl false) H') :
    tOp (rNeD K) (tMeth (He.ga K "Heap") "take" (sp_Heap_take K) [] E0 (tVar 6) tNil) (tBM K "list" rPopAt (tVar 7) (tCons (tC (.int 0)) tNil)) σ H Q := by
  obtain ⟨y, rest, hY⟩ : ∃ y rest, Y w = y :: rest := by
    cases h : Y w with
    | nil => exact absurd h ne
    | cons y r => exact ⟨y, r, rfl⟩
  obtain ⟨dx, ia, lp, ts⟩ := W.hp w
  have pxy := (W.px w).trans (W.py w).symm
  have lxy := W.lenXY w
  rw [hY] at pxy
  have so := W.so w
  rw [hY] at so
  have so' := List.pairwise_cons.mp so
  have ty := W.ty w
  rw [hY] at ty
  walk_at "zz"
  refine z_var h6 ?_
  refine z_methR ia (noF (by decide +kernel)) ?_
  walk_at "zz"
  refine ⟨A w, P w, X w, rfl, W.hp w, fun z => ?_, by omega, fun H1 v ys hA pv least bt => ?_⟩
  · rw [z, hY] at lxy
    simp at lxy
  have tv : Tup H v := ts.1 v (pv.mem_iff.mpr List.mem_cons_self)
  have tys : ∀ u ∈ ys, Tup H u := fun u hu => ts.1 u (pv.mem_iff.mpr (List.mem_cons_of_mem _ hu))
  have ev : tk H v = tk H y := by
    refine lexL_eq _ _ ?_ ?_
    · have hm : tk H v ∈ (y :: rest).map (tk H) := pxy.mem_iff.mp (List.mem_map.mpr ⟨v, pv.mem_iff.mpr List.mem_cons_self, rfl⟩)
      obtain ⟨y', hy', e⟩ := List.mem_map.mp hm
      rw [← e]
      rcases List.mem_cons.mp hy' with z | z
      · rw [z]
        exact lexL_refl _
      · exact so'.1 y' z
    · have hm : tk H y ∈ (X w).map (tk H) := pxy.mem_iff.mpr (List.mem_map.mpr ⟨y, List.mem_cons_self, rfl⟩)
      obtain ⟨u, hu, e⟩ := List.mem_map.mp hm
      rw [← e]
      rcases List.mem_cons.mp (pv.mem_iff.mp hu) with z | z
      · rw [z]
        exact lexL_refl _
      · exact least u z
  have pr : (ys.map (tk H)).Perm (rest.map (tk H)) := by
    have p1 := ((pv.map (tk H)).symm).trans pxy
    rw [List.map_cons, List.map_cons, ev] at p1
    exact p1.cons_inv
  have W1 := W.but w bt ys (rest.map (tk H)) hA (by rw [map_same fun u hu => (W.tt bt (tys u hu)).2]; exact pr)
  have o1 := W1.oo w
  rw [hY] at o1
  have ty1 : ∀ u ∈ rest, Tup H1 u ∧ tk H1 u = tk H u := fun u hu => W.tt bt (ty u (List.mem_cons_of_mem _ hu))
  have W2 := W1.own w rest (rest.map (tk H)) (fun u hu => (ty1 u hu).1) (srt_same (fun u hu => (ty1 u hu).2) so'.2) (by rw [map_same fun u hu => (ty1 u hu).2])
  walk_at "zz"
  refine z_var h7 ?_
  refine z_tyl (sq_of o1) ?_
  walk_at "zz"
  refine ⟨O w, y :: rest, 0, 0, y, rfl, rfl, o1, by decide, by decide, ?_, rfl, ?_⟩
  · rw [PySem.seqIndex_of (by decide) (by simp)]
    rfl
  rw [show (y :: rest).eraseIdx 0 = rest from rfl]
  have two : ∀ {u : V}, Tup H u → Tup (upd H1 (O w) (.lst rest)) u ∧ tk (upd H1 (O w) (.lst rest)) u = tk H u := fun {u} hu => by
    have a := W.tt bt hu
    have b := tk_same (H' := upd H1 (O w) (.lst rest)) a.1 fun t xs _ ht => by
      rw [upd_ne fun z => by rw [z, o1] at ht; cases ht]
      exact ht
    exact ⟨b.1, b.2.trans a.2⟩
  have d1 := two tv
  have d2 := two (ty y List.mem_cons_self)
  obtain ⟨t1, e1, g1, _, _⟩ := d1.1.tk
  obtain ⟨t2, e2, g2, _, _⟩ := d2.1.tk
  have ee : tk (upd H1 (O w) (.lst rest)) v = tk (upd H1 (O w) (.lst rest)) y := by rw [d1.2, d2.2, ev]
  rw [ee] at g1
  rw [e1, e2]
  refine z_neD (b := true) (.tup (st_of g1) (dp_ints _)) (.tup (st_of g2) (dp_ints _)) (cl_ints _) (cl_ints _) (by show PyData.depthAll _ + 1 ≤ 64; rw [depth_ints]; decide) (by show PyData.depthAll _ + 1 ≤ 64; rw [depth_ints]; decide) ⟨fun _ => rfl, fun _ => rfl⟩ ?_
  refine q _ _ _ _ W2 ?_ fun b hb => ?_
  · show (if w = w then rest else Y w).length + 1 = _
    rw [if_pos rfl, hY] <;> rfl
  · show (if b = w then rest else Y b) = _
    rw [if_neg hb]
theorem pick2 {α : Type} (f : Bool → α) {N : Int} {w : Bool} (hw : N = if w then 1 else 0) : atI [f false, f true] N = some (f w) := by
  subst hw
  cases w
  · exact atI_nat (xs := [f false, f true]) (j := 0) rfl
  · exact atI_nat (xs := [f false, f true]) (j := 1) rfl
theorem bit2 (N : Int) : ∃ w : Bool, N % 2 = if w then 1 else 0 := by
  rcases (by omega : N % 2 = 0 ∨ N % 2 = 1) with h | h
  · exact ⟨false, h⟩
  · exact ⟨true, h⟩
theorem Wd.start {H2 : Hp} {x1 x2 p1 p2 o1 o2 : Addr} (e2 : Ex H H2) (n1 : H x1 = none) (n2 : H x2 = none) (m1 : H p1 = none) (m2 : H p2 = none) (h1 : HeapAt K H2 x1 p1 []) (h2 : HeapAt K H2 x2 p2 []) (xx : x1 ≠ x2) (pp : p1 ≠ p2)
    (hlh : H2 lh = none) (ho1 : upd H2 lh (.lst [.ref x1, .ref x2]) o1 = none) (ho2 : upd (upd H2 lh (.lst [.ref x1, .ref x2])) o1 (.lst []) o2 = none) (hlo : upd (upd (upd H2 lh (.lst [.ref x1, .ref x2])) o1 (.lst [])) o2 (.lst []) lo = none) :
    Wd K H (upd (upd (upd (upd H2 lh (.lst [.ref x1, .ref x2])) o1 (.lst [])) o2 (.lst [])) lo (.lst [.ref o1, .ref o2])) lh lo (fun b => cond b x2 x1) (fun b => cond b p2 p1) (fun b => cond b o2 o1) (fun _ => []) (fun _ => []) (fun _ => []) (fun _ => []) := by
  have e3 := e2.trans (Ex.new (o := .lst [.ref x1, .ref x2]) hlh)
  have e4 := e3.trans (Ex.new (o := .lst []) ho1)
  have e5 := e4.trans (Ex.new (o := .lst []) ho2)
  have e6 := e5.trans (Ex.new (o := .lst [.ref o1, .ref o2]) hlo)
  have f3 : Ex H2 (upd H2 lh (.lst [.ref x1, .ref x2])) := Ex.new hlh
  have f4 := f3.trans (Ex.new (o := .lst []) ho1)
  have f5 := f4.trans (Ex.new (o := .lst []) ho2)
  have f6 := f5.trans (Ex.new (o := .lst [.ref o1, .ref o2]) hlo)
  have g4 : Ex (upd H2 lh (.lst [.ref x1, .ref x2])) (upd (upd H2 lh (.lst [.ref x1, .ref x2])) o1 (.lst [])) := Ex.new ho1
  have g5 := g4.trans (Ex.new (o := .lst []) ho2)
  have g6 := g5.trans (Ex.new (o := .lst [.ref o1, .ref o2]) hlo)
  have k5 : Ex (upd (upd H2 lh (.lst [.ref x1, .ref x2])) o1 (.lst [])) (upd (upd (upd H2 lh (.lst [.ref x1, .ref x2])) o1 (.lst [])) o2 (.lst [])) := Ex.new ho2
  have k6 := k5.trans (Ex.new (o := .lst [.ref o1, .ref o2]) hlo)
  have l6 : Ex (upd (upd (upd H2 lh (.lst [.ref x1, .ref x2])) o1 (.lst [])) o2 (.lst [])) (upd (upd (upd (upd H2 lh (.lst [.ref x1, .ref x2])) o1 (.lst [])) o2 (.lst [])) lo (.lst [.ref o1, .ref o2])) := Ex.new hlo
  have ne : ∀ {G : Hp} {b c : Addr} {o : HO}, G b = some o → G c = none → b ≠ c := fun {G b c o} hb hc z => by
    rw [z, hc] at hb
    cases hb
  obtain ⟨d1, i1, l1, t1⟩ := h1
  obtain ⟨d2, i2, l2, t2⟩ := h2
  have q1 : ∀ {b : Addr} {o : HO}, H2 b = some o → b ≠ lh ∧ b ≠ o1 ∧ b ≠ o2 ∧ b ≠ lo := fun {b o} hb => ⟨ne hb hlh, ne (f3 _ _ hb) ho1, ne (f4 _ _ hb) ho2, ne (f5 _ _ hb) hlo⟩
  have ul : upd H2 lh (.lst [.ref x1, .ref x2]) lh = some (.lst [.ref x1, .ref x2]) := upd_same
  have uo1 : upd (upd H2 lh (.lst [.ref x1, .ref x2])) o1 (.lst []) o1 = some (.lst []) := upd_same
  have uo2 : upd (upd (upd H2 lh (.lst [.ref x1, .ref x2])) o1 (.lst [])) o2 (.lst []) o2 = some (.lst []) := upd_same
  refine ⟨e6, fresh_back e2 hlh, fresh_back e5 hlo, fun b => ?_, fun b => ?_, fun b => ?_, g6 _ _ ul, upd_same, fun b => ?_, fun b => ?_, fun b v hv => (by cases hv), fun b => .nil, fun b => .refl _, fun b => .refl _, xx, pp, ne uo1 ho2, fun b c => ?_, fun b => ?_, fun b => ?_, fun b => ?_, fun b => ?_, ne (g5 _ _ ul) hlo⟩
  · cases b
    · exact n1
    · exact n2
  · cases b
    · exact m1
    · exact m2
  · cases b
    · exact fresh_back e3 ho1
    · exact fresh_back e4 ho2
  · cases b
    · exact ⟨d1, f6 _ _ i1, f6 _ _ l1, fun v hv => (by cases hv), fun i _ h => (by cases h)⟩
    · exact ⟨d2, f6 _ _ i2, f6 _ _ l2, fun v hv => (by cases hv), fun i _ h => (by cases h)⟩
  · cases b
    · exact k6 _ _ uo1
    · exact l6 _ _ uo2
  · cases b <;> cases c
    · exact (q1 l1).2.1
    · exact (q1 l1).2.2.1
    · exact (q1 l2).2.1
    · exact (q1 l2).2.2.1
  · cases b
    · exact (q1 l1).1.symm
    · exact (q1 l2).1.symm
  · cases b
    · exact ne ul ho1
    · exact ne (g4 _ _ ul) ho2
  · cases b
    · exact (q1 l1).2.2.2.symm
    · exact (q1 l2).2.2.2.symm
  · cases b
    · exact (ne (k5 _ _ uo1) hlo).symm
    · exact (ne uo2 hlo).symm
theorem z_tail {D : Ends} {σ : L2.St} (W : Wd K H0 H lh lo A P O X Y Z Z) (w : Bool) (h6 : σ[6]? = some (some (.ref (A w)))) (h7 : σ[7]? = some (some (.ref (O w)))) (len : (Y w).length ≤ 1000) (q : ∀ H', Ex H H' → D.nx σ H') :
    tIfS (tOr (tTest (tOp rNe (tMeth (He.ga K "Heap") "size" (sp_Heap_size K) [] E0 (tVar 6) tNil) (tCB (cLenSeq K) (tCons (tVar 7) tNil)))) (tTru K (tCB (rIsi K) (tCons (tMeth (He.ga K "Heap") "size" (sp_Heap_size K) [] E0 (tVar 6) tNil) (tCons (tC (.ty "bool")) tNil))))) (tRet (tC (.bl false))) tNext D σ H := by
  have lxy := W.lenXY w
  obtain ⟨dx, ia, lp, ts⟩ := id (W.hp w)
  walk_at "zz"
  refine z_var h6 ?_
  refine z_methR ia (noF (by decide +kernel)) ?_
  walk_at "zz"
  refine ⟨A w, P w, X w, rfl, W.hp w, by omega, fun H1 e1 => ?_⟩
  walk_at "zz"
  refine z_var h7 ?_
  walk_at "zz"
  refine z_lenL (sq_of (e1 _ _ (W.oo w))) ?_
  walk_at "zz"
  rw [lxy]
  refine ite_b (fun h => absurd h (by simp)) (fun _ => ?_)
  walk_at "zz"
  refine z_var h6 ?_
  refine z_methR (e1 _ _ ia) (noF (by decide +kernel)) ?_
  walk_at "zz"
  refine ⟨A w, P w, X w, rfl, (W.ex e1).hp w, by omega, fun H2 e2 => ?_⟩
  walk_at "zz"
  refine z_isi (T := "int") (b := false) (.base (.int _)) (kit_ty (by decide +kernel)) ?_
  walk_at "zz"
  exact q H2 (e1.trans e2)
theorem z_put {D : Ends} {a : Addr} {N : Int} {y3 y8 : Option V} (W : Wd K H0 H lh lo A P O X Y Z Z) (w : Bool) (hw : N % 2 = if w then 1 else 0) (hN : 0 ≤ N ∧ N < 33554432) (len : ∀ b, (Y b).length ≤ 900)
    (q : ∀ H' O' X' Y' Z' y, Wd K H0 H' lh lo A P O' X' Y' Z' Z' → (∀ b, (Y' b).length ≤ (Y b).length + 1) → D.nx [some (.ref a), some (.ref lh), some (.ref lo), y3, some (.int N), some (.int (N % 2)), some (.ref (A w)), some (.ref (O' w)), y] H') :
    tSeq (tAsg (tCall (sp_L_thing K) [] E0 (tCons (tVar 0) (tCons (tOp rDivI (tVar 4) (tC (.int 10))) (tCons (tOp (rIxL K) (tVar 2) (tOp rModI (tOp rDivI (tVar 4) (tC (.int 10))) (tC (.int 2)))) tNil)))) (gName 8))
    (tSeq (tIfS (tB (tNotN (tMeth (He.ga K "Heap") "put" (sp_Heap_put K) [] E0 (tVar 6) (tCons (tVar 8) tNil)))) (tRet (tC (.bl false))) tNext)
    (tSeq (tAsg (tCB (ZS.rSortedTI K) (tCons (tOp rCat (tVar 7) (tLst (tCons (tVar 8) tNil))) tNil)) (gSub (tVar 2) (tVar 5) rSetL))
    (tAsg (tOp (rIxL K) (tVar 2) (tVar 5)) (gName 7)))) D [some (.ref a), some (.ref lh), some (.ref lo), y3, some (.int N), some (.int (N % 2)), some (.ref (A w)), some (.ref (O w)), y8] H := by
  walk_at "zz"
  obtain ⟨w2, hw2⟩ := bit2 (N / 10)
  refine z_ixL (sq_of W.ho) (pick2 (fun b => V.ref (O b)) hw2) ?_
  walk_at "zz"
  refine ⟨a, O w2, N / 10, Y w2, rfl, ⟨by omega, by omega⟩, W.oo w2, W.ty w2, Nat.le_trans (len w2) (by decide), fun v H1 e1 tv => ?_⟩
  have W1 := W.ex e1
  have lxy := W1.lenXY w
  have lw := len w
  obtain ⟨dx, ia, lp, ts⟩ := id (W1.hp w)
  walk_at "zz"
  refine z_methR ia (noF (by decide +kernel)) ?_
  walk_at "zz"
  refine ⟨A w, P w, v, X w, rfl, W1.hp w, tv, by omega, fun H2 ys hA pv bt => ?_⟩
  walk_at "zz"
  refine ite_b (fun h => absurd h (by decide)) (fun _ => ?_)
  have tX : ∀ u ∈ v :: X w, Tup H2 u ∧ tk H2 u = tk H1 u := fun u hu => by
    rcases List.mem_cons.mp hu with h | h
    · rw [h]
      exact W1.tt bt tv
    · exact W1.tt bt (ts.1 u h)
  have W2 := W1.but w bt ys ((v :: X w).map (tk H1)) hA (by
    rw [← map_same fun u hu => (tX u hu).2]
    exact pv.map _)
  walk_at "zz"
  refine ⟨szl (by simp), fun c hc => ?_⟩
  have ec : Ex H2 (upd H2 c (.lst [v])) := Ex.new hc
  refine z_cat (ec _ _ (W2.oo w)) upd_same (Nat.le_trans (Nat.add_le_add lw (Nat.le_refl _)) (show 900 + 1 ≤ sizeLine by decide)) fun m hm => ?_
  have em : Ex H2 (upd (upd H2 c (.lst [v])) m (.lst (Y w ++ [v]))) := ec.trans (Ex.new hm)
  have um : upd (upd H2 c (.lst [v])) m (.lst (Y w ++ [v])) m = some (.lst (Y w ++ [v])) := upd_same
  generalize upd (upd H2 c (.lst [v])) m (.lst (Y w ++ [v])) = Hm at em um ⊢
  have W3 := W2.ex em
  have tY : ∀ u ∈ Y w ++ [v], Tup Hm u ∧ tk Hm u = tk H1 u := fun u hu => by
    have h1 : Tup H1 u := by
      rcases List.mem_append.mp hu with h | h
      · exact W1.ty w u h
      · rw [show u = v by simpa using h]
        exact tv
    have h2 := W1.tt bt h1
    have h3 := tk_same h2.1 (fun t xs _ ht => em _ _ ht)
    exact ⟨h3.1, h3.2.trans h2.2⟩
  walk_at "zz"
  refine ⟨m, Y w ++ [v], tk Hm, rfl, sq_of um, fun u hu => ?_, fun ys2 p hs2 pm2 hp => ?_⟩
  · obtain ⟨t, e, g, n, _⟩ := (tY u hu).1.tk
    exact ⟨t, e, g, n⟩
  have t2 : ∀ u ∈ ys2, Tup Hm u := fun u hu => (tY u (pm2.mem_iff.mp hu)).1
  have W4 := W3.set w p ys2 ((v :: X w).map (tk H1)) hp t2 hs2 (by
    refine (pm2.map _).trans ?_
    rw [map_same fun u hu => (tY u hu).2, List.map_append, List.map_cons]
    refine List.perm_append_comm.trans ?_
    show (tk H1 v :: (Y w).map (tk H1)).Perm _
    exact .cons _ ((W1.py w).trans (W1.px w).symm))
  have ep : Ex Hm (upd Hm p (.lst ys2)) := Ex.new hp
  walk_at "zz"
  refine ⟨lo, [.ref (O false), .ref (O true)], N % 2, if w then 1 else 0, rfl, rfl, ep _ _ W3.ho, ?_, ?_⟩
  · rw [hw]
    cases w <;> rfl
  have es : [V.ref (O false), V.ref (O true)].set (if w then 1 else 0) (.ref p) = [.ref (if false = w then p else O false), .ref (if true = w then p else O true)] := by cases w <;> rfl
  rw [es]
  walk_at "zz"
  refine z_ixL (sq_of W4.ho) (pick2 (fun b => V.ref (if b = w then p else O b)) hw) ?_
  walk_at "zz"
  refine q _ _ _ _ _ _ W4 fun b => ?_
  show (if b = w then ys2 else Y b).length ≤ _
  split
  · rename_i h
    rw [pm2.length_eq, List.length_append, h] <;> simp
  · omega
end
theorem vr_law (vs H Q E) (h : sp_law K vs H Q E) : (rd_law K) { nx := fun _ H' => Q .non H', rt := Q } (start ["_law_script", "_law_heaps", "_law_owns", "_law_k", "_law_number", "_law_which", "_law_heap", "_law_own", "_law_thing_here"] vs) H := by
  obtain ⟨a, ns, rfl, ha, hn, q⟩ := h
  unfold rd_law
  walk_at "zz"
  intro x1 dx1 hx1 hdx1 ne1
  refine ⟨x1, dx1, rfl, upd_same, fun H1 p1 hp1 hA1 b1 => ⟨rfl, ?_⟩⟩
  walk_at "zz"
  intro x2 dx2 hx2 hdx2 ne2
  refine ⟨x2, dx2, rfl, upd_same, fun H2 p2 hp2 hA2 b2 => ⟨rfl, ?_⟩⟩
  walk_at "zz"
  refine ⟨szl (by simp), fun lh hlh => ?_⟩
  walk_at "zz"
  refine ⟨szl (by simp), fun o1 ho1 => ?_⟩
  walk_at "zz"
  refine ⟨szl (by simp), fun o2 ho2 => ?_⟩
  walk_at "zz"
  refine ⟨szl (by simp), fun lo hlo => ?_⟩
  have mk : ∀ {G G' : Hp} {x dx : Addr} {o : HO}, G x = none → G dx = none → dx ≠ x → But [x] (upd (upd G dx (.own x)) x o) G' → Ex G (upd (upd G dx (.own x)) x o) ∧ Ex G G' := fun {G G' x dx o} h1 h2 h3 bt => by
    have e : Ex G (upd (upd G dx (.own x)) x o) := (Ex.new h2).trans (Ex.new (by rw [upd_ne h3.symm]; exact h1))
    refine ⟨e, fun c u hc => bt c u (fun z => ?_) (e c u hc)⟩
    rw [show c = x by simpa using z, h1] at hc
    cases hc
  obtain ⟨e1, e1'⟩ := mk hx1 hdx1 ne1 b1
  obtain ⟨e2, e2'⟩ := mk hx2 hdx2 ne2 b2
  obtain ⟨d1, i1, l1, t1⟩ := id hA1
  have xx : x1 ≠ x2 := fun z => by
    rw [z, hx2] at i1
    cases i1
  have pp : p1 ≠ p2 := fun z => by
    have := e2 _ _ l1
    rw [z, hp2] at this
    cases this
  have W0 := Wd.start (K := K) (e1'.trans e2') hx1 (fresh_back e1' hx2) (fresh_back e1 hp1) (fresh_back (e1'.trans e2) hp2) ⟨d1, e2' _ _ i1, e2' _ _ l1, fun v hv => (by cases hv), fun i _ h => (by cases h)⟩ hA2 xx pp hlh ho1 ho2 hlo
  generalize upd (upd (upd (upd H2 lh (.lst [.ref x1, .ref x2])) o1 (.lst [])) o2 (.lst [])) lo (.lst [.ref o1, .ref o2]) = H3 at W0 ⊢
  walk_at "zz"
  refine z_lenL (ex_l W0.e ha) ?_
  walk_at "zz"
  refine z_FR1 ⟨by split <;> omega, by split <;> (try simp) <;> omega⟩ (fun i σ' H' => ∃ A P O X Y Z y3 y4 y5 y6 y7 y8, σ' = [some (.ref a), some (.ref lh), some (.ref lo), y3, y4, y5, y6, y7, y8] ∧ Wd K H H' lh lo A P O X Y Z Z ∧ ∀ b, (Y b).length ≤ i) ⟨_, _, _, _, _, _, none, none, none, none, none, none, rfl, W0, fun b => Nat.le_refl 0⟩ (fun i σ' H' hi h => ?_) (fun σ' H' h => ?_)
  · obtain ⟨A, P, O, X, Y, Z, y3, y4, y5, y6, y7, y8, rfl, W, hl⟩ := h
    have hi' : i < 200 := by
      split at hi <;> omega
    walk_at "zz"
    refine ⟨a, ns, i, rfl, ex_l W.e ha, ⟨by omega, by omega⟩, fun N hN0 hN1 H1 e1 => ?_⟩
    have W1 := W.ex e1
    obtain ⟨w, hw⟩ := bit2 N
    walk_at "zz"
    refine z_ixL (sq_of W1.hl) (pick2 (fun b => V.ref (A b)) hw) ?_
    walk_at "zz"
    refine z_ixL (sq_of W1.ho) (pick2 (fun b => V.ref (O b)) hw) ?_
    walk_at "zz"
    refine ⟨_, _, rfl, ?_⟩
    have len : ∀ b, (Y b).length ≤ 900 := fun b => by
      have := hl b
      omega
    walk_at "zz"
    refine ite_b (fun _ => ?_) (fun _ => ?_)
    · walk_at "zz"
      refine ⟨szl (by simp), fun c hc => ?_⟩
      have ec : Ex H1 (upd H1 c (.lst [])) := Ex.new hc
      have W2 := W1.ex ec
      refine z_neTups (sq_of (W2.oo w)) (W2.ty w) (sq_of upd_same) ?_
      walk_at "zz"
      refine ite_b (fun h => ?_) (fun _ => ?_)
      · refine z_ifs (z_test ?_)
        refine z_takepop W2 w rfl rfl (fun z => by rw [z] at h; cases h) (Nat.le_trans (len w) (by decide)) fun H' X' Y' Z' W' l1 l2 => ?_
        have hl' : ∀ b, (Y' b).length ≤ i := fun b => by
          by_cases hb : b = w
          · rw [hb]
            have := hl w
            omega
          · rw [l2 b hb]
            exact hl b
        refine z_bl (ite_f (z_next ?_))
        refine z_tail W' w rfl rfl (Nat.le_trans (hl' w) (by omega)) fun H'' e => ?_
        exact ⟨_, _, _, _, _, _, _, _, _, _, _, _, rfl, W'.ex e, fun b => Nat.le_succ_of_le (hl' b)⟩
      · refine z_put W2 w hw ⟨hN0, hN1⟩ len fun H' O' X' Y' Z' y W' l => ?_
        have hl' : ∀ b, (Y' b).length ≤ i + 1 := fun b => Nat.le_trans (l b) (Nat.succ_le_succ (hl b))
        refine z_tail W' w rfl rfl (Nat.le_trans (hl' w) (by omega)) fun H'' e => ?_
        exact ⟨_, _, _, _, _, _, _, _, _, _, _, _, rfl, W'.ex e, hl'⟩
    · refine ite_f ?_
      refine z_put W1 w hw ⟨hN0, hN1⟩ len fun H' O' X' Y' Z' y W' l => ?_
      have hl' : ∀ b, (Y' b).length ≤ i + 1 := fun b => Nat.le_trans (l b) (Nat.succ_le_succ (hl b))
      refine z_tail W' w rfl rfl (Nat.le_trans (hl' w) (by omega)) fun H'' e => ?_
      exact ⟨_, _, _, _, _, _, _, _, _, _, _, _, rfl, W'.ex e, hl'⟩
  · obtain ⟨A, P, O, X, Y, Z, y3, y4, y5, y6, y7, y8, rfl, W, hl⟩ := h
    have hl' : ∀ b, (Y b).length ≤ 900 := fun b => by
      refine Nat.le_trans (hl b) ?_
      split <;> omega
    walk_at "zz"
    refine z_FZ (n := 2) rfl (sq_of W.hl) (sq_of W.ho) (fun i σ' H2 => ∃ X Y Z y6 y7, σ' = [some (.ref a), some (.ref lh), some (.ref lo), y3, y4, y5, y6, y7, y8] ∧ Wd K H H2 lh lo A P O X Y Z Z ∧ (∀ b, (Y b).length ≤ 900) ∧ (1 ≤ i → Y false = []) ∧ (2 ≤ i → Y true = [])) ⟨X, Y, Z, _, _, rfl, W, hl', fun h => by omega, fun h => by omega⟩ (fun i σ' H2 hi h => ?_) (fun i u v t σ' H2 H3 hi hu hv h e ht eH => ?_) (fun σ' H2 h => ?_)
    · obtain ⟨X, Y, Z, y6, y7, rfl, W, _⟩ := h
      exact ⟨sq_of W.hl, sq_of W.ho⟩
    · obtain ⟨X, Y, Z, y6, y7, rfl, W, hl, hf, htt⟩ := h
      subst eH
      have W3 := W.ex e
      obtain ⟨w, hu', hv', hwi⟩ : ∃ w : Bool, u = .ref (A w) ∧ v = .ref (O w) ∧ i = (if w then 1 else 0) := by
        rcases (by omega : i = 0 ∨ i = 1) with h | h
        · subst h
          cases hu
          cases hv
          exact ⟨false, rfl, rfl, rfl⟩
        · subst h
          cases hu
          cases hv
          exact ⟨true, rfl, rfl, rfl⟩
      subst hu' hv'
      refine z_gtup2 (st_of upd_same) ?_
      refine z_while (fun m σ' H' => ∃ X' Y' Z', m = (Y' w).length ∧ σ' = [some (.ref a), some (.ref lh), some (.ref lo), y3, y4, y5, some (.ref (A w)), some (.ref (O w)), y8] ∧ Wd K H H' lh lo A P O X' Y' Z' Z' ∧ (∀ b, (Y' b).length ≤ 900) ∧ ∀ b, b ≠ w → Y' b = Y b) _ ⟨X, Y, Z, rfl, rfl, W3, hl, fun _ _ => rfl⟩ ?_
      rintro m σ' H' ⟨X', Y', Z', rfl, rfl, W', hl', keep⟩
      walk_at "zz"
      refine ⟨szl (by simp), fun c hc => ?_⟩
      have W4 := W'.ex (Ex.new (o := .lst []) hc)
      refine z_neTups (sq_of (W4.oo w)) (W4.ty w) (sq_of upd_same) ?_
      walk_at "zz"
      refine ite_b (fun h => ?_) (fun h => ?_)
      · refine ⟨fun σ' H' => ∃ X'' Y'' Z'', (Y'' w).length < (Y' w).length ∧ σ' = [some (.ref a), some (.ref lh), some (.ref lo), y3, y4, y5, some (.ref (A w)), some (.ref (O w)), y8] ∧ Wd K H H' lh lo A P O X'' Y'' Z'' Z'' ∧ (∀ b, (Y'' b).length ≤ 900) ∧ ∀ b, b ≠ w → Y'' b = Y b, fun σ' H' ⟨X'', Y'', Z'', l, h1, h2, h3, h4⟩ => ⟨_, l, X'', Y'', Z'', rfl, h1, h2, h3, h4⟩, ?_⟩
        refine z_ifs (z_or (z_test ?_))
        refine z_takepop W4 w rfl rfl (fun z => by rw [z] at h; cases h) (Nat.le_trans (hl' w) (by decide)) fun H5 X5 Y5 Z5 W5 l1 l2 => ?_
        walk_at "zz"
        have l5 := W5.lenXY w
        have l9 := hl' w
        obtain ⟨dx, ia, lp, ts⟩ := id (W5.hp w)
        refine z_methR ia (noF (by decide +kernel)) ?_
        walk_at "zz"
        refine ⟨A w, P w, X5 w, rfl, W5.hp w, by omega, fun H6 e6 => ?_⟩
        walk_at "zz"
        refine z_lenL (sq_of (e6 _ _ (W5.oo w))) ?_
        walk_at "zz"
        rw [l5]
        refine ite_b (fun h => absurd h (by simp)) (fun _ => ?_)
        walk_at "zz"
        refine ⟨X5, Y5, Z5, by omega, rfl, W5.ex e6, fun b => ?_, fun b hb => (l2 b hb).trans (keep b hb)⟩
        by_cases hb : b = w
        · rw [hb]
          omega
        · rw [l2 b hb]
          exact hl' b
      · have nil : Y' w = [] := by
          cases hy : Y' w with
          | nil => rfl
          | cons _ _ => rw [hy] at h; cases h
        refine ⟨X', Y', Z', _, _, rfl, W4, hl', fun _ => ?_, fun h2 => ?_⟩
        · cases w
          · exact nil
          · rw [keep false (by decide)]
            exact hf (by rw [hwi]; decide)
        · cases w
          · rw [hwi] at h2
            exact absurd h2 (by decide)
          · exact nil
    · obtain ⟨X, Y, Z, y6, y7, rfl, W, hl, hf, htt⟩ := h
      have size : ∀ (b : Bool) (H5 : Hp), Ex H2 H5 → ∀ Q' : VK, (∀ H6, Ex H2 H6 → Q' (.int 0) H6) → MethR (He.ga K "Heap") "size" (sp_Heap_size K) tNil [some (.ref a), some (.ref lh), some (.ref lo), y3, y4, y5, y6, y7, y8] Q' (.ref (A b)) H5 := fun b H5 e Q' q' => by
        have W5 := W.ex e
        have l5 := W5.lenXY b
        have yb : Y b = [] := by
          cases b
          · exact hf (by decide)
          · exact htt (by decide)
        rw [yb] at l5
        obtain ⟨dx, ia, lp, ts⟩ := id (W5.hp b)
        refine z_methR ia (noF (by decide +kernel)) ?_
        walk_at "zz"
        refine ⟨A b, P b, X b, rfl, W5.hp b, by rw [l5]; decide, fun H6 e6 => ?_⟩
        rw [l5]
        exact q' H6 (e.trans e6)
      walk_at "zz"
      refine z_ixL (sq_of W.hl) (show atI _ ((0 : Nat) : Int) = some (.ref (A false)) from atI_nat rfl) ?_
      refine size false H2 (Ex.refl _) _ fun H6 e6 => ?_
      walk_at "zz"
      refine ite_b (fun _ => ?_) (fun h => absurd h (by decide))
      walk_at "zz"
      refine z_ixL (sq_of (e6 _ _ W.hl)) (show atI _ ((1 : Nat) : Int) = some (.ref (A true)) from atI_nat rfl) ?_
      refine size true H6 e6 _ fun H7 e7 => ?_
      walk_at "zz"
      exact RetV.go q (W.e.trans e7)
end

end K33
namespace K33
open PySem PySem.Spec PyProof.Rows L2 Z
open Evl (Ex ex_l ex_t sq_of st_of fresh_back RetL RetV)

def topS (i : Nat) : Stmt := PySem.Challenge.pw_wireyard_k33_heaps.main.body.getD i (.Pass ⟨0, 0, 0, 0⟩)
abbrev s_Heap_init : Stmt := inCls (topS 2) 0
theorem sc_Heap_init : FnScope ["self"] ["self"] (defScope s_Heap_init) := ⟨rfl, rfl, rfl, by decide +kernel, rfl, by decide +kernel, by decide +kernel⟩
abbrev s_L_cell : Stmt := topS 4
theorem sc_L_cell : FnScope ["_law_script", "_law_k", "_law_cell_here"] ["_law_script", "_law_k"] (defScope s_L_cell) := ⟨rfl, rfl, rfl, by decide +kernel, rfl, by decide +kernel, by decide +kernel⟩
abbrev s_Heap_take : Stmt := inCls (topS 2) 2
theorem sc_Heap_take : FnScope ["self"] ["self"] (defScope s_Heap_take) := ⟨rfl, rfl, rfl, by decide +kernel, rfl, by decide +kernel, by decide +kernel⟩
abbrev s_L_mixed : Stmt := topS 5
theorem sc_L_mixed : FnScope ["_law_number", "_law_k"] ["_law_number", "_law_k"] (defScope s_L_mixed) := ⟨rfl, rfl, rfl, by decide +kernel, rfl, by decide +kernel, by decide +kernel⟩
abbrev s_L_thing : Stmt := topS 6
theorem sc_L_thing : FnScope ["_law_script", "_law_number", "_law_there", "_law_one", "_law_some", "_law_k", "_law_more"] ["_law_script", "_law_number", "_law_there"] (defScope s_L_thing) := ⟨rfl, rfl, rfl, by decide +kernel, rfl, by decide +kernel, by decide +kernel⟩
abbrev s_Heap_put : Stmt := inCls (topS 2) 1
theorem sc_Heap_put : FnScope ["self", "thing"] ["self", "thing"] (defScope s_Heap_put) := ⟨rfl, rfl, rfl, by decide +kernel, rfl, by decide +kernel, by decide +kernel⟩
abbrev s_Heap_size : Stmt := inCls (topS 2) 3
theorem sc_Heap_size : FnScope ["self"] ["self"] (defScope s_Heap_size) := ⟨rfl, rfl, rfl, by decide +kernel, rfl, by decide +kernel, by decide +kernel⟩
abbrev s_law : Stmt := topS 7
theorem sc_law : FnScope ["_law_script", "_law_heaps", "_law_owns", "_law_k", "_law_number", "_law_which", "_law_heap", "_law_own", "_law_thing_here"] ["_law_script"] (defScope s_law) := ⟨rfl, rfl, rfl, by decide +kernel, rfl, by decide +kernel, by decide +kernel⟩
structure Tx (K : PySem.W.Frag) (mg : Str → Option Value) : Prop where
  d_Heap_init : DM K "Heap" "__init__" "Heap.__init__" s_Heap_init
  d_L_cell : DX K mg "_law_cell" s_L_cell
  d_Heap_take : DM K "Heap" "take" "Heap.take" s_Heap_take
  d_L_mixed : DX K mg "_law_mixed" s_L_mixed
  d_L_thing : DX K mg "_law_thing" s_L_thing
  d_Heap_put : DM K "Heap" "put" "Heap.put" s_Heap_put
  d_Heap_size : DM K "Heap" "size" "Heap.size" s_Heap_size
  d_law : DX K mg "law" s_law
  g_Heap : mg "Heap" = some (.ref (He.ga K "Heap"))
  k_Heap : Cls K (He.ga K "Heap")
  i_Heap : Mk K (He.ga K "Heap") (He.ma K (He.ga K "Heap") "__init__")
  h_Heap_put : Meth K (He.ga K "Heap") "put" (He.ma K (He.ga K "Heap") "put")
  h_Heap_size : Meth K (He.ga K "Heap") "size" (He.ma K (He.ga K "Heap") "size")
  h_Heap_take : Meth K (He.ga K "Heap") "take" (He.ma K (He.ga K "Heap") "take")
  a_Heap_things : NoAttr K (He.ga K "Heap") "things"
  n_bool : mg "bool" = none
  n_isinstance : mg "isinstance" = none
  n_len : mg "len" = none
  n_min : mg "min" = none
  n_range : mg "range" = none
  n_sorted : mg "sorted" = none
  n_tuple : mg "tuple" = none
  n_zip : mg "zip" = none
  b_heappop : mg "heappop" = some (.builtin "_heapq.heappop")
  b_heappush : mg "heappush" = some (.builtin "_heapq.heappush")
section
variable {P : Program} {w : World} {K : PySem.W.Frag} {mg : Str → Option Value} {base : Heap}
theorem ok_Heap_init (T : Tx K mg) : CalI P w K mg base 1 "Heap" (He.ga K "Heap") (sp_Heap_init K) :=
  calI_mk (t := (rd_Heap_init K)) T.i_Heap T.g_Heap T.d_Heap_init sc_Heap_init (fun _ _ _ _ _ _ us hl => match us, hl with | [_], _ => rfl) len_Heap_init
    (fun f cdv A outer s H E hr => (pss_one (ps_fld (pv 0) (pe_lst pa_nil) (by rfl))))
    (fun vs H Q E h => vr_Heap_init T.k_Heap T.a_Heap_things vs H Q E h)
theorem ok_L_cell (T : Tx K mg) : Cal P w K mg base 1 "_law_cell" (sp_L_cell K) :=
  cal_mk (t := (rd_L_cell K)) T.d_L_cell sc_L_cell (fun _ _ _ _ _ _ us hl => match us, hl with | [_, _], _ => rfl) len_L_cell
    (fun f cdv A outer s H E hr => (pss_cons (ps_set (i := 2) sc_L_cell.nd rfl (.inl rfl) pe_int)
    (pss_cons (ps_if (pt_cmpR op_gt (pe_callB call_len_seq (by rfl) T.n_len (by decide +kernel) (pa_cons (pv 0) pa_nil)) pe_int (nomark _)) (pss_one (ps_set (i := 2) sc_L_cell.nd rfl (.inl rfl) (pe_op op_mod (pe_ix ix_list (pv 0) (pe_op op_mod (pv 1) (pe_callB call_len_seq (by rfl) T.n_len (by decide +kernel) (pa_cons (pv 0) pa_nil))) (fun _ _ => rfl)) pe_int)))
    pss_nil)
    (pss_one (ps_ret (pe_op op_fdiv (pe_op op_mod (pe_op op_mul (pe_op op_mod (pe_op op_mul (pe_op op_add (pe_op op_add (pv 2) (pe_op op_mul (pe_op op_mul pe_int (pv 1)) (pv 1))) (pe_op op_mul pe_int (pv 1))) pe_int) pe_int) pe_int) pe_int) pe_int))))))
    (fun vs H Q E h => vr_L_cell vs H Q E h)
theorem ok_Heap_take (T : Tx K mg) : CalM P w K mg base 1 (He.ga K "Heap") "take" (sp_Heap_take K) :=
  calM_mk (t := (rd_Heap_take K)) T.k_Heap T.h_Heap_take T.d_Heap_take sc_Heap_take (fun _ _ _ _ _ _ us hl => match us, hl with | [_], _ => rfl) len_Heap_take
    (fun f cdv A outer s H E hr => (pss_one (ps_ret (pe_callBfun (ZH.cr_popH (hu_of hr)) (by rfl) T.b_heappop (pa_cons (pe_fld (pv 0) (by rfl)) pa_nil)))))
    (fun vs H Q E h => vr_Heap_take T.k_Heap T.a_Heap_things vs H Q E h)
theorem ok_L_mixed (T : Tx K mg) : Cal P w K mg base 1 "_law_mixed" sp_L_mixed :=
  cal_mk (t := rd_L_mixed) T.d_L_mixed sc_L_mixed (fun _ _ _ _ _ _ us hl => match us, hl with | [_, _], _ => rfl) len_L_mixed
    (fun f cdv A outer s H E hr => (pss_one (ps_ret (pe_op op_fdiv (pe_op op_mod (pe_op op_mul (pe_op op_mod (pe_op op_mul (pe_op op_add (pe_op op_add (pe_op op_add (pv 0) (pe_op op_mul (pe_op op_mul pe_int (pv 1)) (pv 1))) (pe_op op_mul pe_int (pv 1))) pe_int) pe_int) pe_int) pe_int) pe_int) pe_int))))
    (fun vs H Q E h => vr_L_mixed vs H Q E h)
theorem ok_L_thing (T : Tx K mg) : Cal P w K mg base 2 "_law_thing" (sp_L_thing K) :=
  cal_mk (t := (rd_L_thing K)) T.d_L_thing sc_L_thing (fun _ _ _ _ _ _ us hl => match us, hl with | [_, _, _], _ => rfl) len_L_thing
    (fun f cdv A outer s H E hr => (Evl.pss_cut (ps_if (PW.pt (pw_and (pt_cmpR (op_neD (hu64 hr)) (pv 2) (pe_lst pa_nil) (nomark _)) (pw_and1 (pt_cmpR op_eq (pe_op op_mod (pv 1) pe_int) pe_int (nomark _))))) (pss_one (ps_ret (pe_ix ix_list (pv 2) (pe_op op_mod (pe_op op_fdiv (pv 1) pe_int) (pe_callB call_len_seq (by rfl) T.n_len (by decide +kernel) (pa_cons (pv 2) pa_nil))) (fun _ _ => rfl))))
    pss_nil)
    (Evl.pss_cut (ps_if (PW.pt (pw_and (pt_cmpR (op_neD (hu64 hr)) (pv 2) (pe_lst pa_nil) (nomark _)) (pw_and1 (pt_cmpR op_eq (pe_op op_mod (pv 1) pe_int) pe_int (nomark _))))) (pss_cons (ps_set (i := 3) sc_L_thing.nd rfl (.inl rfl) (pe_ix ix_list (pv 2) (pe_op op_mod (pe_op op_fdiv (pv 1) pe_int) (pe_callB call_len_seq (by rfl) T.n_len (by decide +kernel) (pa_cons (pv 2) pa_nil))) (fun _ _ => rfl)))
    (pss_one (ps_ret (pe_op op_catA (pe_tup (pa_cons (pe_op op_sub (pe_op op_add (pe_ix ix_tup (pv 3) pe_int (fun _ _ => rfl)) (pe_op op_mod (pe_op op_fdiv (pv 1) pe_int) pe_int)) pe_int) pa_nil)) (pe_slice sl_tupA (pv 3) (po_some pe_int) po_none)))))
    pss_nil)
    (pss_cons (ps_set (i := 4) sc_L_thing.nd rfl (.inl rfl) (pe_lst pa_nil))
    (pss_cons (ps_for PassesOwn.never rfl (pi_range1 (by rfl) T.n_range (pa_cons (pe_op op_add pe_int (pe_op op_mod (pe_op op_fdiv (pv 1) pe_int) pe_int)) pa_nil)) (pg_name (i := 5) sc_L_thing.nd rfl (.inl rfl)) (pss_cons (ps_set (i := 6) sc_L_thing.nd rfl (.inl rfl) (pe_c (ok_L_mixed T) hr (by decide) (by rfl) (pa_cons (pv 1) (pa_cons (pv 5) pa_nil))))
    (pss_one (ps_expr (pe_bm PySem.F.plainAttrs_list PySem.F.slot_list_append PySem.F.type_list_append mt_append (pv 4) (pa_cons (pe_ix ix_list (pe_lst (pa_cons (pe_op op_mod (pv 6) pe_int) (pa_cons (pv 6) (pa_cons (pe_op op_sub pe_int (pv 6)) (pa_cons (pe_op op_mod (pe_op op_pow (pv 6) pe_int) (pe_op op_pow pe_int pe_int)) pa_nil))))) (pe_op op_mod (pv 6) pe_int) (fun _ _ => rfl)) pa_nil))))))
    (pss_one (ps_ret (pe_callTy call_tuple_of (by rfl) T.n_tuple (by decide +kernel) (pa_cons (pv 4) pa_nil)))))))))
    (fun vs H Q E h => vr_L_thing vs H Q E h)
theorem ok_Heap_put (T : Tx K mg) : CalM P w K mg base 1 (He.ga K "Heap") "put" (sp_Heap_put K) :=
  calM_mk (t := (rd_Heap_put K)) T.k_Heap T.h_Heap_put T.d_Heap_put sc_Heap_put (fun _ _ _ _ _ _ us hl => match us, hl with | [_, _], _ => rfl) len_Heap_put
    (fun f cdv A outer s H E hr => (pss_one (ps_expr (pe_callBfun (ZH.cr_push (hu_of hr)) (by rfl) T.b_heappush (pa_cons (pe_fld (pv 0) (by rfl)) (pa_cons (pv 1) pa_nil))))))
    (fun vs H Q E h => vr_Heap_put T.k_Heap T.a_Heap_things vs H Q E h)
theorem ok_Heap_size (T : Tx K mg) : CalM P w K mg base 1 (He.ga K "Heap") "size" (sp_Heap_size K) :=
  calM_mk (t := (rd_Heap_size K)) T.k_Heap T.h_Heap_size T.d_Heap_size sc_Heap_size (fun _ _ _ _ _ _ us hl => match us, hl with | [_], _ => rfl) len_Heap_size
    (fun f cdv A outer s H E hr => (pss_one (ps_ret (pe_callB call_len_seq (by rfl) T.n_len (by decide +kernel) (pa_cons (pe_fld (pv 0) (by rfl)) pa_nil)))))
    (fun vs H Q E h => vr_Heap_size T.k_Heap T.a_Heap_things vs H Q E h)
theorem ok_law (T : Tx K mg) : Cal P w K mg base 3 "law" (sp_law K) :=
  cal_mk (t := (rd_law K)) T.d_law sc_law (fun _ _ _ _ _ _ us hl => match us, hl with | [_], _ => rfl) len_law
    (fun f cdv A outer s H E hr => (pss_cons (ps_set (i := 1) sc_law.nd rfl (.inl rfl) (pe_lst (pa_cons (pe_i0 (ok_Heap_init T) hr (by decide) (by rfl)) (pa_cons (pe_i0 (ok_Heap_init T) hr (by decide) (by rfl)) pa_nil))))
    (pss_cons (ps_set (i := 2) sc_law.nd rfl (.inl rfl) (pe_lst (pa_cons (pe_lst pa_nil) (pa_cons (pe_lst pa_nil) pa_nil))))
    (pss_cons (ps_for PassesOwn.never rfl (pi_range1 (by rfl) T.n_range (pa_cons (pe_callB (call_min2 rfl) (by rfl) T.n_min (by decide +kernel) (pa_cons pe_int (pa_cons (pe_callB call_len_seq (by rfl) T.n_len (by decide +kernel) (pa_cons (pv 0) pa_nil)) pa_nil))) pa_nil)) (pg_name (i := 3) sc_law.nd rfl (.inl rfl)) (pss_cons (ps_set (i := 4) sc_law.nd rfl (.inl rfl) (pe_c (ok_L_cell T) hr (by decide) (by rfl) (pa_cons (pv 0) (pa_cons (pv 3) pa_nil))))
    (pss_cons (ps_set (i := 5) sc_law.nd rfl (.inl rfl) (pe_op op_mod (pv 4) pe_int))
    (pss_cons (ps_par rfl sc_law.nd rfl rfl (by decide) rfl rfl (pa_cons (pe_ix ix_list (pv 1) (pv 5) (fun _ _ => rfl)) (pa_cons (pe_ix ix_list (pv 2) (pv 5) (fun _ _ => rfl)) pa_nil)) (by rfl))
    (pss_cons (ps_if (PW.pt (pw_and (pt_cmpR op_lt (pe_op op_mod (pe_op op_fdiv (pv 4) pe_int) pe_int) pe_int (nomark _)) (pw_and1 (pt_cmpR (op_neD (hu64 hr)) (pv 7) (pe_lst pa_nil) (nomark _))))) (pss_one (ps_if (pt_cmpR (op_neD (hu64 hr)) (pe_m0 (ok_Heap_take T) hr (by decide) (pv 6)) (pe_bm PySem.F.plainAttrs_list PySem.F.slot_list_pop PySem.F.type_list_pop mt_popAt (pv 7) (pa_cons pe_int pa_nil)) (nomark _)) (pss_one (ps_ret pe_bl))
    pss_nil))
    (pss_cons (ps_set (i := 8) sc_law.nd rfl (.inl rfl) (pe_c (ok_L_thing T) hr (by decide) (by rfl) (pa_cons (pv 0) (pa_cons (pe_op op_fdiv (pv 4) pe_int) (pa_cons (pe_ix ix_list (pv 2) (pe_op op_mod (pe_op op_fdiv (pv 4) pe_int) pe_int) (fun _ _ => rfl)) pa_nil)))))
    (pss_cons (ps_if (pt_cmp (pc_notN (pe_m (ok_Heap_put T) hr (by decide) (pv 6) (pa_cons (pv 8) pa_nil)))) (pss_one (ps_ret pe_bl))
    pss_nil)
    (pss_cons (ps_asg (pe_callB ZS.cr_sortedTI (by rfl) T.n_sorted (by decide +kernel) (pa_cons (pe_op op_cat (pv 7) (pe_lst (pa_cons (pv 8) pa_nil))) pa_nil)) (pg_sub (pv 2) (pv 5) set_list))
    (pss_one (ps_set (i := 7) sc_law.nd rfl (.inl rfl) (pe_ix ix_list (pv 2) (pv 5) (fun _ _ => rfl))))))))
    (pss_one (ps_if (PW.pt (pw_or (pt_cmpR op_ne (pe_m0 (ok_Heap_size T) hr (by decide) (pv 6)) (pe_callB call_len_seq (by rfl) T.n_len (by decide +kernel) (pa_cons (pv 7) pa_nil)) (nomark _)) (pw_or1 (pt_truth (pe_callB call_isi (by rfl) T.n_isinstance (by decide +kernel) (pa_cons (pe_m0 (ok_Heap_size T) hr (by decide) (pv 6)) (pa_cons (pe_bltn (by rfl) T.n_bool (by decide +kernel) rfl) pa_nil))) (by intro _; rfl))))) (pss_one (ps_ret pe_bl))
    pss_nil)))))))
    (pss_cons (ps_for PassesOwn.never rfl (pi_zip (by rfl) T.n_zip (pa_cons (pv 1) (pa_cons (pv 2) pa_nil))) (pg_tup rfl (pgs_cons (pg_name (i := 6) sc_law.nd rfl (.inl rfl)) (pgs_cons (pg_name (i := 7) sc_law.nd rfl (.inl rfl)) pgs_nil))) (pss_one (ps_while PassesOwn.never (pt_cmpR (op_neD (hu64 hr)) (pv 7) (pe_lst pa_nil) (nomark _)) (pss_one (ps_if (PW.pt (pw_or (pt_cmpR (op_neD (hu64 hr)) (pe_m0 (ok_Heap_take T) hr (by decide) (pv 6)) (pe_bm PySem.F.plainAttrs_list PySem.F.slot_list_pop PySem.F.type_list_pop mt_popAt (pv 7) (pa_cons pe_int pa_nil)) (nomark _)) (pw_or1 (pt_cmpR op_ne (pe_m0 (ok_Heap_size T) hr (by decide) (pv 6)) (pe_callB call_len_seq (by rfl) T.n_len (by decide +kernel) (pa_cons (pv 7) pa_nil)) (nomark _))))) (pss_one (ps_ret pe_bl))
    pss_nil)))))
    (pss_one (ps_ret (pe_andT (pe_cmpR op_eq (pe_m0 (ok_Heap_size T) hr (by decide) (pe_ix ix_list (pv 1) pe_int (fun _ _ => rfl))) pe_int (nomark _)) (pe_one (pe_cmpR op_eq (pe_m0 (ok_Heap_size T) hr (by decide) (pe_ix ix_list (pv 1) pe_int (fun _ _ => rfl))) pe_int (nomark _)))))))))))
    (fun vs H Q E h => vr_law vs H Q E h)
end
def dd_Heap_init : He.DefD := ⟨("Heap", some "__init__"), "__init__", "Heap.__init__", defArgs s_Heap_init, defBody s_Heap_init, defScope s_Heap_init, [], []⟩
def dd_L_cell : He.DefD := ⟨("_law_cell", none), "_law_cell", "_law_cell", defArgs s_L_cell, defBody s_L_cell, defScope s_L_cell, [], []⟩
def dd_Heap_take : He.DefD := ⟨("Heap", some "take"), "take", "Heap.take", defArgs s_Heap_take, defBody s_Heap_take, defScope s_Heap_take, [], []⟩
def dd_L_mixed : He.DefD := ⟨("_law_mixed", none), "_law_mixed", "_law_mixed", defArgs s_L_mixed, defBody s_L_mixed, defScope s_L_mixed, [], []⟩
def dd_L_thing : He.DefD := ⟨("_law_thing", none), "_law_thing", "_law_thing", defArgs s_L_thing, defBody s_L_thing, defScope s_L_thing, [], []⟩
def dd_Heap_put : He.DefD := ⟨("Heap", some "put"), "put", "Heap.put", defArgs s_Heap_put, defBody s_Heap_put, defScope s_Heap_put, [], []⟩
def dd_Heap_size : He.DefD := ⟨("Heap", some "size"), "size", "Heap.size", defArgs s_Heap_size, defBody s_Heap_size, defScope s_Heap_size, [], []⟩
def dd_law : He.DefD := ⟨("law", none), "law", "law", defArgs s_law, defBody s_law, defScope s_law, [], []⟩
def fnD : List He.DefD := [dd_Heap_init, dd_L_cell, dd_Heap_take, dd_L_mixed, dd_L_thing, dd_Heap_put, dd_Heap_size, dd_law]
def faD : List He.Fa := [.glo "_law_cell", .glo "_law_mixed", .glo "_law_thing", .glo "law", .free "bool", .free "isinstance", .free "len", .free "min", .free "range", .free "sorted", .free "tuple", .free "zip", .glo "Heap", .cls "Heap", .mkr "Heap", .meth "Heap" "put", .meth "Heap" "size", .meth "Heap" "take", .noat "Heap" "things"]
def exD : PySem.W.Frag → Bool := fun K => He.eqO (PySem.W.nsIn K mainGlobals "heappop") (some (some (.builtin "_heapq.heappop"))) && He.eqO (PySem.W.nsIn K mainGlobals "heappush") (some (some (.builtin "_heapq.heappush")))
theorem tx_of {K : PySem.W.Frag} {h : Heap} {mg : Str → Option Value} (X : K.In h) (G : h.Ns mainGlobals mg) (c : He.SaysD faD fnD K) (ex : exD K = true) : Tx K mg where
  d_Heap_init := c.def_ 0 (d := dd_Heap_init) rfl
  d_L_cell := by
    obtain ⟨fd, F⟩ := c.def_ 1 (d := dd_L_cell) rfl
    exact ⟨_, fd, F, He.glo_ok X G (c.fact 0 (f := .glo "_law_cell") rfl)⟩
  d_Heap_take := c.def_ 2 (d := dd_Heap_take) rfl
  d_L_mixed := by
    obtain ⟨fd, F⟩ := c.def_ 3 (d := dd_L_mixed) rfl
    exact ⟨_, fd, F, He.glo_ok X G (c.fact 1 (f := .glo "_law_mixed") rfl)⟩
  d_L_thing := by
    obtain ⟨fd, F⟩ := c.def_ 4 (d := dd_L_thing) rfl
    exact ⟨_, fd, F, He.glo_ok X G (c.fact 2 (f := .glo "_law_thing") rfl)⟩
  d_Heap_put := c.def_ 5 (d := dd_Heap_put) rfl
  d_Heap_size := c.def_ 6 (d := dd_Heap_size) rfl
  d_law := by
    obtain ⟨fd, F⟩ := c.def_ 7 (d := dd_law) rfl
    exact ⟨_, fd, F, He.glo_ok X G (c.fact 3 (f := .glo "law") rfl)⟩
  g_Heap := He.glo_ok X G (c.fact 12 (f := .glo "Heap") rfl)
  k_Heap := He.cls_ok (c.fact 13 (f := .cls "Heap") rfl)
  i_Heap := He.mkr_ok (c.fact 14 (f := .mkr "Heap") rfl)
  h_Heap_put := He.meth_ok (c.fact 15 (f := .meth "Heap" "put") rfl)
  h_Heap_size := He.meth_ok (c.fact 16 (f := .meth "Heap" "size") rfl)
  h_Heap_take := He.meth_ok (c.fact 17 (f := .meth "Heap" "take") rfl)
  a_Heap_things := He.noat_ok (c.fact 18 (f := .noat "Heap" "things") rfl)
  n_bool := He.free_ok X G (c.fact 4 (f := .free "bool") rfl)
  n_isinstance := He.free_ok X G (c.fact 5 (f := .free "isinstance") rfl)
  n_len := He.free_ok X G (c.fact 6 (f := .free "len") rfl)
  n_min := He.free_ok X G (c.fact 7 (f := .free "min") rfl)
  n_range := He.free_ok X G (c.fact 8 (f := .free "range") rfl)
  n_sorted := He.free_ok X G (c.fact 9 (f := .free "sorted") rfl)
  n_tuple := He.free_ok X G (c.fact 10 (f := .free "tuple") rfl)
  n_zip := He.free_ok X G (c.fact 11 (f := .free "zip") rfl)
  b_heappop := PySem.W.mg_of X G (He.eqO_ok (Bool.and_eq_true_iff.mp ex).1)
  b_heappush := PySem.W.mg_of X G (He.eqO_ok (Bool.and_eq_true_iff.mp ex).2)
abbrev R : PySem.W.OpenRow := PySem.W.OpenLaw.row PySem.Challenge.rw_wireyard_k33_heaps
def loose0 : List PySem.Str := ["heappop", "heappush", "Heap", "_law_cell", "_law_mixed", "_law_thing"]
def loose : List PySem.Str := loose0
abbrev hk : PySem.W.Hook := Z.hookZ faD fnD exD 4
def ob (s : PySem.W.SharedT) : He.AlD × Bool := Z.lookZ faD fnD exD 4 (HandSHeadRun.getT s)
theorem ob_eq (s : PySem.W.SharedT) : ob s = hk.obs s.abs := Z.lookZ_eq (HandSHeadRun.getT_eq s)
theorem run (w : World) : HandSHeadRun.RunEqI R (PySem.W.view R.prog [0, 7]) hk ob 20000 loose w := by
  unfold HandSHeadRun.RunEqI
  kernel_rfl
theorem fn_law {P : Program} {w : World} {K : PySem.W.Frag} {mg : Str → Option Value} {base : Heap} {f : Addr} {fd : FuncData} (F : FunD K "law" "law" (defArgs s_law) (defBody s_law) (defScope s_law) [] [] f fd) (T : Tx K mg) : FnOk P w K mg base CX0 3 f fd ["_law_script"] (sp_law K) :=
  F.ok sc_law len_law fun cdv A outer s H vs Q E hr h => ⟨(rd_law K), PSs.nox ((pss_cons (ps_set (i := 1) sc_law.nd rfl (.inl rfl) (pe_lst (pa_cons (pe_i0 (ok_Heap_init T) hr (by decide) (by rfl)) (pa_cons (pe_i0 (ok_Heap_init T) hr (by decide) (by rfl)) pa_nil))))
    (pss_cons (ps_set (i := 2) sc_law.nd rfl (.inl rfl) (pe_lst (pa_cons (pe_lst pa_nil) (pa_cons (pe_lst pa_nil) pa_nil))))
    (pss_cons (ps_for PassesOwn.never rfl (pi_range1 (by rfl) T.n_range (pa_cons (pe_callB (call_min2 rfl) (by rfl) T.n_min (by decide +kernel) (pa_cons pe_int (pa_cons (pe_callB call_len_seq (by rfl) T.n_len (by decide +kernel) (pa_cons (pv 0) pa_nil)) pa_nil))) pa_nil)) (pg_name (i := 3) sc_law.nd rfl (.inl rfl)) (pss_cons (ps_set (i := 4) sc_law.nd rfl (.inl rfl) (pe_c (ok_L_cell T) hr (by decide) (by rfl) (pa_cons (pv 0) (pa_cons (pv 3) pa_nil))))
    (pss_cons (ps_set (i := 5) sc_law.nd rfl (.inl rfl) (pe_op op_mod (pv 4) pe_int))
    (pss_cons (ps_par rfl sc_law.nd rfl rfl (by decide) rfl rfl (pa_cons (pe_ix ix_list (pv 1) (pv 5) (fun _ _ => rfl)) (pa_cons (pe_ix ix_list (pv 2) (pv 5) (fun _ _ => rfl)) pa_nil)) (by rfl))
    (pss_cons (ps_if (PW.pt (pw_and (pt_cmpR op_lt (pe_op op_mod (pe_op op_fdiv (pv 4) pe_int) pe_int) pe_int (nomark _)) (pw_and1 (pt_cmpR (op_neD (hu64 hr)) (pv 7) (pe_lst pa_nil) (nomark _))))) (pss_one (ps_if (pt_cmpR (op_neD (hu64 hr)) (pe_m0 (ok_Heap_take T) hr (by decide) (pv 6)) (pe_bm PySem.F.plainAttrs_list PySem.F.slot_list_pop PySem.F.type_list_pop mt_popAt (pv 7) (pa_cons pe_int pa_nil)) (nomark _)) (pss_one (ps_ret pe_bl))
    pss_nil))
    (pss_cons (ps_set (i := 8) sc_law.nd rfl (.inl rfl) (pe_c (ok_L_thing T) hr (by decide) (by rfl) (pa_cons (pv 0) (pa_cons (pe_op op_fdiv (pv 4) pe_int) (pa_cons (pe_ix ix_list (pv 2) (pe_op op_mod (pe_op op_fdiv (pv 4) pe_int) pe_int) (fun _ _ => rfl)) pa_nil)))))
    (pss_cons (ps_if (pt_cmp (pc_notN (pe_m (ok_Heap_put T) hr (by decide) (pv 6) (pa_cons (pv 8) pa_nil)))) (pss_one (ps_ret pe_bl))
    pss_nil)
    (pss_cons (ps_asg (pe_callB ZS.cr_sortedTI (by rfl) T.n_sorted (by decide +kernel) (pa_cons (pe_op op_cat (pv 7) (pe_lst (pa_cons (pv 8) pa_nil))) pa_nil)) (pg_sub (pv 2) (pv 5) set_list))
    (pss_one (ps_set (i := 7) sc_law.nd rfl (.inl rfl) (pe_ix ix_list (pv 2) (pv 5) (fun _ _ => rfl))))))))
    (pss_one (ps_if (PW.pt (pw_or (pt_cmpR op_ne (pe_m0 (ok_Heap_size T) hr (by decide) (pv 6)) (pe_callB call_len_seq (by rfl) T.n_len (by decide +kernel) (pa_cons (pv 7) pa_nil)) (nomark _)) (pw_or1 (pt_truth (pe_callB call_isi (by rfl) T.n_isinstance (by decide +kernel) (pa_cons (pe_m0 (ok_Heap_size T) hr (by decide) (pv 6)) (pa_cons (pe_bltn (by rfl) T.n_bool (by decide +kernel) rfl) pa_nil))) (by intro _; rfl))))) (pss_one (ps_ret pe_bl))
    pss_nil)))))))
    (pss_cons (ps_for PassesOwn.never rfl (pi_zip (by rfl) T.n_zip (pa_cons (pv 1) (pa_cons (pv 2) pa_nil))) (pg_tup rfl (pgs_cons (pg_name (i := 6) sc_law.nd rfl (.inl rfl)) (pgs_cons (pg_name (i := 7) sc_law.nd rfl (.inl rfl)) pgs_nil))) (pss_one (ps_while PassesOwn.never (pt_cmpR (op_neD (hu64 hr)) (pv 7) (pe_lst pa_nil) (nomark _)) (pss_one (ps_if (PW.pt (pw_or (pt_cmpR (op_neD (hu64 hr)) (pe_m0 (ok_Heap_take T) hr (by decide) (pv 6)) (pe_bm PySem.F.plainAttrs_list PySem.F.slot_list_pop PySem.F.type_list_pop mt_popAt (pv 7) (pa_cons pe_int pa_nil)) (nomark _)) (pw_or1 (pt_cmpR op_ne (pe_m0 (ok_Heap_size T) hr (by decide) (pv 6)) (pe_callB call_len_seq (by rfl) T.n_len (by decide +kernel) (pa_cons (pv 7) pa_nil)) (nomark _))))) (pss_one (ps_ret pe_bl))
    pss_nil)))))
    (pss_one (ps_ret (pe_andT (pe_cmpR op_eq (pe_m0 (ok_Heap_size T) hr (by decide) (pe_ix ix_list (pv 1) pe_int (fun _ _ => rfl))) pe_int (nomark _)) (pe_one (pe_cmpR op_eq (pe_m0 (ok_Heap_size T) hr (by decide) (pe_ix ix_list (pv 1) pe_int (fun _ _ => rfl))) pe_int (nomark _))))))))))), vr_law vs H Q E h⟩
theorem facts {P : Program} {w : World} {K : PySem.W.Frag} {h : Heap} {mg : Str → Option Value} {f : Addr} (X : K.In h) (G : h.Ns mainGlobals mg) (hfa : mg ("law" : Str) = some (.ref f)) (c : He.SaysD faD fnD K) (x : exD K = true) :
    ∃ fd : FuncData, (∀ (s : Shared) (v : Value), BindsTo s fd ⟨[v], []⟩ [("_law_script", v)]) ∧ ∀ base : Heap, K.In base → base.Ns mainGlobals mg → FnOk P w K mg base CX0 3 f fd ["_law_script"] (sp_law K) := by
  have T : Tx K mg := tx_of X G c x
  obtain ⟨fd, F⟩ := c.def_ 7 (d := dd_law) rfl
  have e := hfa.symm.trans (He.glo_ok X G (c.fact 3 (f := .glo "law") rfl))
  cases e
  have b := FunD.bindsA (ps := ["_law_script"]) F fun _ _ _ _ _ _ us hl => match us, hl with | [_], _ => rfl
  refine ⟨fd, fun s v => b s [v] rfl, fun base _ _ => ?_⟩
  exact fn_law F T
end K33
open PySem PySem.W PySem.Calls PyProof.Rows
set_option maxHeartbeats 0 in
theorem PySem.Challenge.cw_wireyard_k33_heaps_holds : PySem.Challenge.rw_wireyard_k33_heaps.Holds := by
  w_on; o_law
  refine HandSHeadRun.head_imp (r := K33.R) (q := view K33.R.prog [0, 7]) (H := K33.hk) (ob := K33.ob) (M := 20000) (loose := K33.loose) (d := HandSHeadRun.topDef K33.R.prog 7) (kwd := []) K33.ob_eq
    K33.run (by kernel_rfl) (by kernel_rfl) (by kernel_rfl) (by rfl) (by first | assumption | decide +kernel) (by decide +kernel) ⟨rfl, rfl, rfl, rfl, rfl, by decide +kernel⟩ ?hw ?hc
  case hw => w_witness2
  case hc =>
    refine L2.walk_ofE (l := PySem.Challenge.rw_wireyard_k33_heaps) (n := 63) (k := 3) (x := "_law_script") (CX := L2.CX0) rfl (by decide) (by kernel_rfl) ⟨rfl, by decide, by decide⟩ ?F (fun _ _ _ _ z => z)
    intro w mg fa h Y G hmg0
    obtain ⟨K, KX, c, x⟩ := Y
    have hmg : mg ("law" : PySem.Str) = some (.ref fa) := by
      have e : (HandSHeadRun.topDef K33.R.prog 7).name = ("law" : PySem.Str) := by kernel_rfl
      rw [← e]
      exact hmg0
    obtain ⟨fd, hb, hF⟩ := K33.facts (P := (PySem.Challenge.rw_wireyard_k33_heaps).prog) (w := w) KX G hmg c x
    exact ⟨K, fd, K33.sp_law K, KX, hb, fun H a ns hl _ hS => ⟨a, ns, rfl, hS, hl, fun _ _ => rfl⟩, hF⟩
