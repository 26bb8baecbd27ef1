import PyProof.Rows.All
import Wide.All
import OpenK.AllK
import Wide.FinOn
import Lean
import KE.KStateDown
import HandS.ForMost
import HandS.Walk
import HandS.Evl
import HandS.Flow
import HandS.Style
import HandS.WideBits
import HandS.Defaults
import HandS.IsInst
import HandS.More
import HandS.Replace
import HandS.TupLe
import HandS.RevRange
import HandS.Conv
import HandS.TupAny
import KE.IntTextLaws
import HandS.Head0
import HandS.Head1
import HandS.Head2
import HandS.HeadEnd
import HandS.HeadHook1
import HandS.HeadHook2
import PySem.Challenge.RW_wireyard_k02_words_told_by_signs
set_option Elab.async false
set_option linter.all false
set_option maxRecDepth 100000
set_option maxHeartbeats 4000000
/-! Z: my own short steps over the hand layer: one lemma a reading, in the order in which the code runs; heaps are letters, joined by Ex. -/
namespace Z
open PySem PySem.Spec PyProof.Rows L2
open Evl (Ex ex_l ex_t ex_rd sq_of st_of fresh_back)

/-! ### short names of readings -/
abbrev rAddI : R2 := rI0 fun i j => .int (i + j)
abbrev rSubI : R2 := rI0 fun i j => .int (i - j)
abbrev rMulI : R2 := rI CMul fun i j => .int (i * j)
abbrev rMulX : R2 := rI CMulX fun i j => .int (i * j)
abbrev rDivI : R2 := rI CDiv fun i j => .int (i / j)
abbrev rDivW : R2 := rI CDivW fun i j => .int (i / j)
abbrev rIndexS : V → List V → Hp → VK → Prop := fun x xs H Q => ∃ a b i rest, x = .str a ∧ xs = [.str b] ∧ Builtin.Str.occurrences a b 0 a.length 1 = i :: rest ∧ Q (.int (i : Nat)) H
abbrev rModI : R2 := rI (fun _ j => 0 < j) fun i j => .int (i % j)
abbrev rPowI : R2 := rI CPow fun i j => .int (i ^ j.toNat)
abbrev rShlI : R2 := rI CShl fun i j => .int (i * 2 ^ j.toNat)
abbrev rShrI : R2 := rI (fun _ j => 0 ≤ j) fun i j => .int (i / 2 ^ j.toNat)
abbrev rAndI : R2 := rI0 fun i j => .int (Builtin.bitAnd i j)
abbrev rOrI : R2 := rI0 fun i j => .int (Builtin.bitOr i j)
abbrev rXorI : R2 := rI0 fun i j => .int (Builtin.bitXor i j)
abbrev rLtI : R2 := rI0 fun i j => .bl (decide (i < j))
abbrev rLeI : R2 := rI0 fun i j => .bl (decide (i ≤ j))
abbrev rGtI : R2 := rI0 fun i j => .bl (decide (j < i))
abbrev rGeI : R2 := rI0 fun i j => .bl (decide (j ≤ i))
abbrev rNegI : V → Hp → VK → Prop := rU fun i => .int (-i)
def rAddStr : R2 := fun x y H Q => ∃ i j, x = .str i ∧ y = .str j ∧ i.length + j.length ≤ sizeLine ∧ Q (.str (i ++ j)) H
def rInSgn : R2 := fun x y H Q => ∃ (c : Nat) (z : Str), x = .str ⟨#[c]⟩ ∧ y = .str z ∧ Q (.bl (decide (c ∈ z.cps.toList))) H
def rNinSgn : R2 := fun x y H Q => ∃ (c : Nat) (z : Str), x = .str ⟨#[c]⟩ ∧ y = .str z ∧ Q (.bl (!decide (c ∈ z.cps.toList))) H
abbrev cLenSeq (K : PySem.W.Frag) : List V → Hp → VK → Prop := fun xs H Q => ∃ p ys, xs = [.ref p] ∧ (SqL K H p ys ∨ SqT K H p ys) ∧ Q (.int ys.length) H
abbrev cLenStr : List V → Hp → VK → Prop := fun xs H Q => ∃ z, xs = [.str z] ∧ z.length ≤ sizeLine ∧ Q (.int z.length) H
abbrev cInt1 : List V → Hp → VK → Prop := fun xs H Q => (∃ i, xs = [.int i] ∧ Q (.int i) H) ∨ ∃ k, xs = [.bl k] ∧ Q (.int (if k then 1 else 0)) H
abbrev cMax2 : List V → Hp → VK → Prop := fun xs H Q => ∃ i j, xs = [.int i, .int j] ∧ Q (.int (if j > i then j else i)) H
abbrev cMin2 : List V → Hp → VK → Prop := fun xs H Q => ∃ i j, xs = [.int i, .int j] ∧ Q (.int (if j < i then j else i)) H
abbrev rIsBl : R2 := fun x y H Q => ∃ a b, x = .bl a ∧ y = .bl b ∧ Q (.bl (decide (a = b))) H
abbrev rNotBl : R2 := fun x y H Q => ∃ a b, x = .bl a ∧ y = .bl b ∧ Q (.bl (!decide (a = b))) H
def rMulStr : R2 := fun x y H Q => ∃ (s : Str) (n : Int), x = .str s ∧ y = .int n ∧ MulOk s n ∧ Q (.str (Txt.mul s n)) H
theorem op_mul_str {X : Cx} : OpR X (binaryOp .Mult) rMulStr := fun pins s σ H x y v u Q I rx ry h => by
  obtain ⟨z, n, rfl, rfl, hz, q⟩ := h
  obtain ⟨t1, rfl⟩ := rx
  obtain ⟨t2, rfl⟩ := ry
  exact SB.mul hz fun t' k => ⟨.str (Txt.mul z n), H, I.tok _, ⟨_, rfl⟩, q⟩
abbrev rJoin (K : PySem.W.Frag) : V → List V → Hp → VK → Prop := fun x xs H Q => ∃ a p, ∃ ys : List Str, x = .str a ∧ xs = [.ref p] ∧ (SqL K H p (ys.map V.str) ∨ SqT K H p (ys.map V.str)) ∧ (ys.map (·.length)).sum + ys.length * a.length ≤ 16777216 ∧ Q (.str (Txt.join a ys)) H
abbrev cStrInt : List V → Hp → VK → Prop := fun xs H Q => ∃ i : Int, xs = [.int i] ∧ i.natAbs.log2 < 1920 ∧ Q (.str (toString i)) H
abbrev cIntStr : List V → Hp → VK → Prop := fun xs H Q => ∃ a n, xs = [.str a] ∧ PySem.intText? a = some n ∧ a.length ≤ 640 ∧ Q (.int n) H
abbrev rPartition : V → List V → Hp → VK → Prop := fun x xs H Q => ∃ a b, x = .str a ∧ xs = [.str b] ∧ (b.length == 0) = false ∧ a.length ≤ sizeLine ∧ ∀ p, H p = none → Q (.ref p) (upd H p (.tup [.str (Txt.partition a b).1, .str (Txt.partition a b).2.1, .str (Txt.partition a b).2.2]))
abbrev rSplit : V → List V → Hp → VK → Prop := fun x xs H Q => ∃ a b, x = .str a ∧ xs = [.str b] ∧ (b.length == 0) = false ∧ a.length + 2 ≤ sizeLine ∧ ∀ p, H p = none → Q (.ref p) (upd H p (.lst ((Txt.split a b).map V.str)))
abbrev rUpper : V → List V → Hp → VK → Prop := fun x xs H Q => ∃ a, x = .str a ∧ xs = [] ∧ a.length ≤ 5592405 ∧ Q (.str (Txt.upper a)) H
abbrev tTru (K : PySem.W.Frag) (ta : TE) : TT := fun σ H Q => ta σ H fun x H' => ∃ k, TruV K x H' k ∧ Q k H'

/-! ### a def of the module and its promise -/
def DX (K : PySem.W.Frag) (mg : Str → Option Value) (x : Str) (st : Stmt) : Prop := ∃ f fd, FunD K x x (defArgs st) (defBody st) (defScope st) [] [] f fd ∧ mg x = some (.ref f)
structure Cal (P : Program) (w : World) (K : PySem.W.Frag) (mg : Str → Option Value) (base : Heap) (k : Nat) (x : Str) (sp : Sp) : Prop where
  ex : ∃ (f : Addr) (fd : FuncData) (ps : List Str), FnOk P w K mg base CX0 k f fd ps sp ∧ mg x = some (.ref f) ∧ PySem.W.keepIn K (.ref f) = true ∧ Binds K fd ps []
section
variable {X : Cx} {k j : Nat} {x : Str} {sp : Sp} {p pos : Pos} {e : Expr} {es : List Expr} {t : TA}
theorem pe_c (c : Cal X.prog X.w X.K X.mg X.base k x sp) (hr : Room j X.A) (hk : k ≤ j) (hg : Gl X x) (ha : PA X (e :: es) t)
    (hdb : (x == ("__debug__" : Str)) = false := by decide) (he : starEach (e :: es) X.env = (false, eval e X.env) :: starEach es X.env := by rfl) (hpl : (backTo pos (starEach es X.env)).any (·.1) = false := by rfl) :
    PE X (.Call (.Name x p) (e :: es) [] pos) (tCall sp [] E0 t) := by
  obtain ⟨f, fd, ps, F, hm, kp, b⟩ := c.ex
  exact pe_call F (hr.mono hk) hg hm kp b .nil pass0 ha hdb he hpl
theorem pe_c0 (c : Cal X.prog X.w X.K X.mg X.base k x sp) (hr : Room j X.A) (hk : k ≤ j) (hg : Gl X x) (hdb : (x == ("__debug__" : Str)) = false := by decide) :
    PE X (.Call (.Name x p) [] [] pos) (tCall sp [] E0 tNil) := by
  obtain ⟨f, fd, ps, F, hm, kp, b⟩ := c.ex
  exact pe_call0 F (hr.mono hk) hg hm kp b .nil pass0 hdb
/-- a name of the module, by its value -/
theorem pe_gc {v : V} (hg : Gl X x) (h : ∃ u, X.mg x = some u ∧ RelV v u) (hd : (x == ("__debug__" : Str)) = false := by decide) : PE X (.Name x pos) (tC v) := by
  obtain ⟨u, hm, r⟩ := h
  exact pe_glob hg hm r hd
end
section
variable {P : Program} {w : World} {K : PySem.W.Frag} {mg : Str → Option Value} {base : Heap}
theorem cal_mk {x : Str} {st : Stmt} {N ps : List Str} {k : Nat} {sp : Sp} {t : TS} (D : DX K mg x st) (S : FnScope N ps (defScope st))
    (hb : ∀ (kV doc pm : Value) (an : Option Addr) (cdv ct : Value) (us : List Value), us.length = ps.length → bindArgs (PySem.W.fnOf x x (defArgs st) (defBody st) (defScope st) .none kV doc pm an cdv ct) ⟨us, []⟩ = pure (ps.zip us))
    (len : ∀ vs H Q E, sp vs H Q E → vs.length = ps.length)
    (hd : ∀ (f : Addr) (cdv : Value) (A : Around) (outer : List Env) (s : Shared) (H : Hp) (E : XK), Room k (A.deeper (envOfC x (defScope st) s.heap.objs.size f cdv)) → PSs (cxOf CX0 P w K mg base N x (defScope st) f cdv A outer s H E).nox (defBody st) t)
    (hv : ∀ vs H Q E, sp vs H Q E → t { nx := fun _ H' => Q .non H', rt := Q } (start N vs) H) : Cal P w K mg base (k + 1) x sp := by
  obtain ⟨f, fd, F, hm⟩ := D
  exact ⟨f, fd, ps, F.ok S len fun cdv A outer s H vs Q E hr h => ⟨t, PSs.nox (hd f cdv A outer s H E hr), hv vs H Q E h⟩, hm, F.kp, F.bindsN hb⟩
end
theorem hu64 {A : Around} {k : Nat} (hr : Room k A) : A.units + 64 < cLine := by have := hr.un; omega

/-! ### heaps: the facts of an elder one -/
section
variable {K : PySem.W.Frag} {σ : L2.St} {H H' : Hp} {Q : VK} {QB : Bool → Hp → Prop} {QA : List V → Hp → Prop} {QO : Option Int → Hp → Prop} {D : Ends} {v x y : V} {i j : Int} {a p : Addr} {xs : List V} {s z : Str} {b : Bool}
variable {ta tb te tc : TE} {t u : TT} {tl th : TO} {tr : TA} {ts tu : TS} {r : R2} {g : TG}

theorem szl {n : Nat} (h : n ≤ 1000) : n ≤ sizeLine := Nat.le_trans h (by decide)
theorem szlt {n : Nat} (h : n ≤ 1000) : n < sizeLine := Nat.lt_of_le_of_lt h (by decide)
/-! ### expressions -/
theorem z_var {n : Nat} (h : σ[n]? = some (some v)) (q : Q v H) : tVar n σ H Q := ⟨v, h, q⟩
theorem z_c (q : Q v H) : tC v σ H Q := q
theorem z_op (q : ta σ H fun x H1 => tb σ H1 fun y H2 => r x y H2 Q) : tOp r ta tb σ H Q := q
theorem z_un {r : V → Hp → VK → Prop} (q : ta σ H fun x H1 => r x H1 Q) : tUn r ta σ H Q := q
theorem z_i0 {f : Int → Int → V} (q : Q (f i j) H) : rI0 f (.int i) (.int j) H Q := ⟨i, j, rfl, rfl, q⟩
theorem z_i {C : Int → Int → Prop} {f : Int → Int → V} (h : C i j) (q : Q (f i j) H) : rI C f (.int i) (.int j) H Q := ⟨i, j, rfl, rfl, h, q⟩
theorem z_u {f : Int → V} (q : Q (f i) H) : rU f (.int i) H Q := ⟨i, rfl, q⟩
theorem z_eq (h : scal x y = true) (q : Q (.bl (decide (x = y))) H) : rEq x y H Q := ⟨h, q⟩
theorem z_ne (h : scal x y = true) (q : Q (.bl (!decide (x = y))) H) : rNe x y H Q := ⟨h, q⟩
theorem z_addS (h : s.length + z.length ≤ sizeLine) (q : Q (.str (s ++ z)) H) : rAddStr (.str s) (.str z) H Q := ⟨s, z, rfl, rfl, h, q⟩
theorem z_inS {c : Nat} (q : Q (.bl (decide (c ∈ z.cps.toList))) H) : rInSgn (.str ⟨#[c]⟩) (.str z) H Q := ⟨c, z, rfl, rfl, q⟩
theorem z_ninS {c : Nat} (q : Q (.bl (!decide (c ∈ z.cps.toList))) H) : rNinSgn (.str ⟨#[c]⟩) (.str z) H Q := ⟨c, z, rfl, rfl, q⟩
theorem z_if (q : t σ H fun c H1 => if c = true then ta σ H1 Q else tb σ H1 Q) : tIf t ta tb σ H Q := q
theorem z_andT (q : ta σ H fun x H1 => ∃ k, TruV K x H1 k ∧ if k = true then tb σ H1 Q else Q x H1) : tAndT K ta tb σ H Q := q
theorem z_orT (q : ta σ H fun x H1 => ∃ k, TruV K x H1 k ∧ if k = true then Q x H1 else tb σ H1 Q) : tOrT K ta tb σ H Q := q
theorem z_notT (q : ta σ H fun x H1 => ∃ k, TruV K x H1 k ∧ Q (.bl (!k)) H1) : tNotT K ta σ H Q := q
theorem z_isN (q : ta σ H fun x H1 => Q (.bl (decide (x = .non))) H1) : tIsN ta σ H Q := q
theorem z_notN (q : ta σ H fun x H1 => Q (.bl (!decide (x = .non))) H1) : tNotN ta σ H Q := q
theorem z_nil (q : QA [] H) : tNil σ H QA := q
theorem z_cons (q : te σ H fun x H1 => tr σ H1 fun xs H2 => QA (x :: xs) H2) : tCons te tr σ H QA := q
theorem z_call {sp : Sp} {E : XK} (q : tr σ H fun vs H1 => sp (vs ++ []) H1 Q E) : tCall sp [] E tr σ H Q := q
theorem z_cb {r : List V → Hp → VK → Prop} (q : tr σ H fun vs H1 => r vs H1 Q) : tCB r tr σ H Q := q
theorem z_lst (q : tr σ H fun xs H1 => xs.length ≤ sizeLine ∧ ∀ p, H1 p = none → Q (.ref p) (upd H1 p (.lst xs))) : tLst tr σ H Q := q
theorem z_tup (q : tr σ H fun xs H1 => xs.length ≤ sizeLine ∧ ∀ p, H1 p = none → Q (.ref p) (upd H1 p (.tup xs))) : tTup tr σ H Q := q
theorem z_ixL {l : Addr} (h : SqL K H l xs) (e : atI xs i = some v) (q : Q v H) : rIxL K (.ref l) (.int i) H Q := ⟨l, xs, i, v, rfl, rfl, h, e, q⟩
theorem z_ixT {l : Addr} (h : SqT K H l xs) (e : atI xs i = some v) (q : Q v H) : rIxT K (.ref l) (.int i) H Q := ⟨l, xs, i, v, rfl, rfl, h, e, q⟩
theorem z_ixS {c : Nat} (h : z.length ≤ sizeLine) (e : atI z.cps.toList i = some c) (q : Q (.str ⟨#[c]⟩) H) : rIxS (.str z) (.int i) H Q := ⟨z, i, c, rfl, rfl, h, e, q⟩
theorem z_cat {l m : Addr} {ys : List V} (h : H l = some (.lst xs)) (h2 : H m = some (.lst ys)) (hz : xs.length + ys.length ≤ sizeLine) (q : ∀ p, H p = none → Q (.ref p) (upd H p (.lst (xs ++ ys)))) : rCat (.ref l) (.ref m) H Q := ⟨l, m, xs, ys, rfl, rfl, h, h2, hz, q⟩
theorem z_rep {l : Addr} {k : Int} (h : H l = some (.lst xs)) (h1 : -(2 ^ 63) ≤ k) (h2 : k < 2 ^ 63) (hz : xs.length * k.toNat ≤ sizeLine) (q : ∀ p, H p = none → Q (.ref p) (upd H p (.lst (List.replicate k.toNat xs).flatten))) : rRep (.ref l) (.int k) H Q := ⟨l, k, xs, rfl, rfl, h, h1, h2, hz, q⟩
theorem z_inL {l : Addr} {neg : Bool} (h : SqL K H l xs) (hx : flatV x = true) (hs : xs.all flatV = true) (q : Q (.bl (if neg then !inV x xs else inV x xs)) H) : rIn K neg x (.ref l) H Q := ⟨l, xs, rfl, .inl h, hx, hs, q⟩
theorem z_inT {l : Addr} {neg : Bool} (h : SqT K H l xs) (hx : flatV x = true) (hs : xs.all flatV = true) (q : Q (.bl (if neg then !inV x xs else inV x xs)) H) : rIn K neg x (.ref l) H Q := ⟨l, xs, rfl, .inr h, hx, hs, q⟩
theorem z_lenL {l : Addr} (h : SqL K H l xs) (q : Q (.int xs.length) H) : cLenSeq K [.ref l] H Q := ⟨l, xs, rfl, .inl h, q⟩
theorem z_lenT {l : Addr} (h : SqT K H l xs) (q : Q (.int xs.length) H) : cLenSeq K [.ref l] H Q := ⟨l, xs, rfl, .inr h, q⟩
theorem z_lenS (h : z.length ≤ sizeLine) (q : Q (.int z.length) H) : cLenStr [.str z] H Q := ⟨z, rfl, h, q⟩
theorem z_int1 (q : Q (.int i) H) : cInt1 [.int i] H Q := .inl ⟨i, rfl, q⟩
theorem z_intb (q : Q (.int (if b then 1 else 0)) H) : cInt1 [.bl b] H Q := .inr ⟨b, rfl, q⟩
theorem z_max2 (q : Q (.int (if j > i then j else i)) H) : cMax2 [.int i, .int j] H Q := ⟨i, j, rfl, q⟩
theorem z_min2 (q : Q (.int (if j < i then j else i)) H) : cMin2 [.int i, .int j] H Q := ⟨i, j, rfl, q⟩
theorem z_revL (q : te σ H fun x H1 => ∃ a xs, x = .ref a ∧ SqL K H1 a xs ∧ ∀ p, H1 p = none → Q (.ref p) (upd H1 p (.lst xs.reverse))) : tRevL K te σ H Q := q
theorem z_revL1 (h : SqL K H a xs) (q : ∀ p, H p = none → Q (.ref p) (upd H p (.lst xs.reverse))) : ∃ a' xs', V.ref a = .ref a' ∧ SqL K H a' xs' ∧ ∀ p, H p = none → Q (.ref p) (upd H p (.lst xs'.reverse)) := ⟨a, xs, rfl, h, q⟩
theorem z_isi {T U : String} (h : TyX K H x (.type T)) (e : PySem.W.kitOne K (.type T) (.type U) = some b) (q : Q (.bl b) H) : rIsi K [x, .ty U] H Q := ⟨x, _, _, _, b, rfl, .ty U, h, e, q⟩
theorem z_dnew (q : ∀ p, H p = none → Q (.ref p) (upd H p (.dK []))) : tDNewK σ H Q := q
theorem z_isbl {c d : Bool} (q : Q (.bl (decide (c = d))) H) : rIsBl (.bl c) (.bl d) H Q := ⟨c, d, rfl, rfl, q⟩
theorem z_notbl {c d : Bool} (q : Q (.bl (!decide (c = d))) H) : rNotBl (.bl c) (.bl d) H Q := ⟨c, d, rfl, rfl, q⟩
theorem z_mulS {n : Int} (h : MulOk s n) (q : Q (.str (Txt.mul s n)) H) : rMulStr (.str s) (.int n) H Q := ⟨s, n, rfl, rfl, h, q⟩
theorem z_strI (h : i.natAbs.log2 < 1920) (q : Q (.str (toString i)) H) : cStrInt [.int i] H Q := ⟨i, rfl, h, q⟩
theorem z_nopart (q : QO none H) : tNoPart σ H QO := q
theorem z_part (q : te σ H fun x H1 => ∃ i, x = .int i ∧ QO (some i) H1) : tPart te σ H QO := q
theorem z_part1 {R : Int → Prop} (q : R i) : ∃ j, V.int i = .int j ∧ R j := ⟨i, rfl, q⟩
theorem z_sl {r : V → Option Int → Option Int → Hp → VK → Prop} (q : te σ H fun x H1 => tl σ H1 fun l H2 => th σ H2 fun u H3 => r x l u H3 Q) : tSl r te tl th σ H Q := q
theorem z_slL {lo hi : Option Int} (h : SqL K H a xs) (q : ∀ p, H p = none → Q (.ref p) (upd H p (.lst (cutV xs lo hi)))) : rSlL K (.ref a) lo hi H Q := ⟨a, xs, rfl, h, q⟩
theorem z_slS {lo hi : Option Int} (h : z.length ≤ sizeLine) (q : Q (.str (cutS z lo hi)) H) : rSlS (.str z) lo hi H Q := ⟨z, rfl, h, q⟩
theorem z_chain {r r' : R2} (q : ta σ H fun x H1 => tb σ H1 fun y H2 => r x y H2 fun z H3 => ∃ k, z = .bl k ∧ if k = true then tc σ H3 fun w' H4 => r' y w' H4 Q else Q (.bl false) H3) : tChain r r' ta tb tc σ H Q := q

/-! ### truth -/
theorem z_test (q : te σ H fun x H' => ∃ k, x = .bl k ∧ QB k H') : tTest te σ H QB := q
theorem z_tB (q : te σ H fun x H' => ∃ k, x = .bl k ∧ QB k H') : tB te σ H QB := q
theorem z_bl {R : Bool → Prop} (q : R b) : ∃ k, V.bl b = .bl k ∧ R k := ⟨b, rfl, q⟩
theorem z_tru (q : ta σ H fun x H' => ∃ k, TruV K x H' k ∧ QB k H') : tTru K ta σ H QB := q
theorem z_trub {R : Bool → Prop} (q : R b) : ∃ k, TruV K (.bl b) H k ∧ R k := ⟨b, rfl, q⟩
theorem z_trui {R : Bool → Prop} (q : R (i != 0)) : ∃ k, TruV K (.int i) H k ∧ R k := ⟨_, rfl, q⟩
theorem z_trun {R : Bool → Prop} (q : R false) : ∃ k, TruV K .non H k ∧ R k := ⟨_, rfl, q⟩
theorem z_trul {R : Bool → Prop} (h : SqL K H a xs) (q : R (!xs.isEmpty)) : ∃ k, TruV K (.ref a) H k ∧ R k := ⟨_, .inl ⟨xs, h, rfl⟩, q⟩
theorem z_and (q : t σ H fun c H1 => if c = true then u σ H1 QB else QB false H1) : tAnd t u σ H QB := q
theorem z_or (q : t σ H fun c H1 => if c = true then QB true H1 else u σ H1 QB) : tOr t u σ H QB := q
theorem z_not (q : t σ H fun c H1 => QB (!c) H1) : tNot t σ H QB := q
theorem z_yes (q : QB true H) : tYes σ H QB := q
theorem ite_t {A B : Prop} (q : A) : if true = true then A else B := by rw [if_pos rfl]; exact q
theorem ite_f {A B : Prop} (q : B) : if false = true then A else B := by rw [if_neg Bool.false_ne_true]; exact q
theorem ite_b {A B : Prop} (h1 : b = true → A) (h2 : b = false → B) : if b = true then A else B := by
  cases b with
  | true => exact ite_t (h1 rfl)
  | false => exact ite_f (h2 rfl)

/-! ### statements -/
theorem z_seq (q : ts { D with nx := tu D } σ H) : tSeq ts tu D σ H := q
theorem z_cut (Mid : L2.St → Hp → Prop) (h : ts { D with nx := Mid } σ H) (q : ∀ σ' H', Mid σ' H' → tu D σ' H') : Evl.tCut ts tu D σ H := ⟨Mid, h, q⟩
theorem z_next (q : D.nx σ H) : tNext D σ H := q
theorem z_ret (q : te σ H D.rt) : tRet te D σ H := q
theorem z_retN (q : D.rt .non H) : tRetN D σ H := q
theorem z_drop (q : te σ H fun _ H1 => D.nx σ H1) : tDrop te D σ H := q
theorem z_ifs (q : t σ H fun b H1 => if b = true then ts D σ H1 else tu D σ H1) : tIfS t ts tu D σ H := q
theorem z_asg (q : te σ H fun x H1 => g x σ H1 D.nx) : tAsg te g D σ H := q
theorem z_brk (q : D.bk σ H) : tBreak D σ H := q
theorem z_cont (q : D.ct σ H) : tCont D σ H := q
theorem z_gname {n : Nat} {QS : L2.St → Hp → Prop} (q : QS (σ.set n (some v)) H) : gName n v σ H QS := q
theorem z_aug {n : Nat} {f : Int → Int → Int} (h : σ[n]? = some (some (.int i))) (q : te σ H fun y H1 => ipI f (.int i) y H1 fun z H2 => D.nx (σ.set n (some z)) H2) : tAug n te (ipI f) D σ H := ⟨.int i, h, q⟩
theorem z_ipi {f : Int → Int → Int} (q : Q (.int (f i j)) H) : ipI f (.int i) (.int j) H Q := ⟨i, j, rfl, rfl, q⟩
theorem z_gtup2 {m n : Nat} {QS : L2.St → Hp → Prop} (h : SqT K H a [x, y]) (q : QS ((σ.set m (some x)).set n (some y)) H) : gTup K 2 (gCons (gName m) (gCons (gName n) gNil)) (.ref a) σ H QS := ⟨a, _, rfl, h, rfl, x, [y], rfl, y, [], rfl, rfl, q⟩
theorem z_bm {r : V → List V → Hp → VK → Prop} {T : String} (q : te σ H fun x H1 => tyV K T x H1 ∧ tr σ H1 fun xs H2 => r x xs H2 Q) : tBM K T r te tr σ H Q := q
theorem z_bm0 {r : V → List V → Hp → VK → Prop} {T : String} (q : te σ H fun x H1 => tyV K T x H1 ∧ r x [] H1 Q) : tBM0 K T r te σ H Q := q
theorem z_tyl {R : Prop} (h : SqL K H a xs) (q : R) : tyV K "list" (.ref a) H ∧ R := ⟨.inl ⟨rfl, xs, h⟩, q⟩
theorem z_tys {R : Prop} (q : R) : tyV K "str" (.str z) H ∧ R := ⟨rfl, q⟩
theorem z_rapp (h : H a = some (.lst xs)) (hz : xs.length < sizeLine) (q : Q .non (upd H a (.lst (xs ++ [v])))) : rAppend (.ref a) [v] H Q := ⟨a, xs, v, rfl, rfl, h, hz, q⟩
theorem z_rext {c : Addr} {ys : List V} (h : H a = some (.lst xs)) (h2 : H c = some (.lst ys)) (hz : xs.length + ys.length ≤ sizeLine) (q : Q .non (upd H a (.lst (xs ++ ys)))) : rExtend (.ref a) [.ref c] H Q := ⟨a, c, xs, ys, rfl, rfl, h, h2, hz, q⟩
theorem z_rpop (h : H a = some (.lst xs)) (e : xs[xs.length - 1]? = some v) (q : Q v (upd H a (.lst xs.dropLast))) : rPop (.ref a) [] H Q := ⟨a, xs, v, rfl, rfl, h, e, q⟩
end
/-! ### loops -/
def FW (J : It) (g : TG) (tb : TS) (D : Ends) (σ : L2.St) (H1 : Hp) : Prop := ∃ W : Nat → Nat → L2.St → Hp → Prop, (∃ m, W 0 m σ H1) ∧ ∀ i m σ H, W i m σ H →
  (J.stop i H ∧ D.nx σ H) ∨ (J.go i H ∧ ∃ N : L2.St → Hp → Prop, (∀ σ' H', N σ' H' → ∃ m', m' < m ∧ W (i + 1) m' σ' H') ∧ ∀ x H', J.yld i H x H' → g x σ H' fun σ2 H2 => tb { D with nx := N, ct := N, bk := D.nx } σ2 H2)
def FL (K : PySem.W.Frag) (g : TG) (tb : TS) (D : Ends) (σ : L2.St) (x : V) (H1 : Hp) : Prop := ∃ a, x = .ref a ∧ (∃ xs, SqL K H1 a xs) ∧ FW (Itl K a) g tb D σ H1
def FT (K : PySem.W.Frag) (g : TG) (tb : TS) (D : Ends) (σ : L2.St) (x : V) (H1 : Hp) : Prop := ∃ a, x = .ref a ∧ (∃ xs, SqT K H1 a xs) ∧ FW (Itt K a) g tb D σ H1
def FS (g : TG) (tb : TS) (D : Ends) (σ : L2.St) (v : V) (H1 : Hp) : Prop := ∃ x, v = .str x ∧ FW (Its x) g tb D σ H1
def FR1 (g : TG) (tb : TS) (D : Ends) (σ : L2.St) (vs : List V) (H1 : Hp) : Prop := ∃ j : Int, vs = [.int j] ∧ -(2 ^ 62) ≤ j ∧ j < 2 ^ 62 ∧ FW (Itr 0 j.toNat) g tb D σ H1
def FR2 (g : TG) (tb : TS) (D : Ends) (σ : L2.St) (vs : List V) (H1 : Hp) : Prop := ∃ i j : Int, vs = [.int i, .int j] ∧ (-(2 ^ 62) ≤ i ∧ i < 2 ^ 62 ∧ -(2 ^ 62) ≤ j ∧ j < 2 ^ 62) ∧ FW (Itr i (j - i).toNat) g tb D σ H1
def FZ (K : PySem.W.Frag) (g : TG) (tb : TS) (D : Ends) (σ : L2.St) (vs : List V) (H1 : Hp) : Prop := ∃ a b xs ys, vs = [.ref a, .ref b] ∧ SqL K H1 a xs ∧ SqL K H1 b ys ∧ FW (Itz K a b) g tb D σ H1
def FE (K : PySem.W.Frag) (g : TG) (tb : TS) (D : Ends) (σ : L2.St) (vs : List V) (H1 : Hp) : Prop := ∃ a xs, vs = [.ref a] ∧ SqL K H1 a xs ∧ FW (Ite K a) g tb D σ H1
section
variable {K : PySem.W.Frag} {σ : L2.St} {H : Hp} {D : Ends} {g : TG} {tb tu : TS} {te : TE} {ta : TA} {a b : Addr} {xs ys : List V}
theorem z_fl (q : te σ H fun x H1 => FL K g tb D σ x H1) : tFor (iList K te) g tb D σ H := q
theorem z_ft (q : te σ H fun x H1 => FT K g tb D σ x H1) : tFor (iTup K te) g tb D σ H := q
theorem z_fs (q : te σ H fun x H1 => FS g tb D σ x H1) : tFor (iStr te) g tb D σ H := q
theorem z_fr1 (q : ta σ H fun x H1 => FR1 g tb D σ x H1) : tFor (iRng1 ta) g tb D σ H := q
theorem z_fr2 (q : ta σ H fun x H1 => FR2 g tb D σ x H1) : tFor (iRng2 ta) g tb D σ H := q
theorem z_fz (q : ta σ H fun x H1 => FZ K g tb D σ x H1) : tFor (iZip K ta) g tb D σ H := q
theorem z_fe (q : ta σ H fun x H1 => FE K g tb D σ x H1) : tFor (iEnum K ta) g tb D σ H := q
/-- over a list: Pv by the turn, the slots, the heap -/
theorem z_FL (hx : SqL K H a xs) (Pv : Nat → L2.St → Hp → Prop) (h0 : Pv 0 σ H) (hG : ∀ i σ H, i ≤ xs.length → Pv i σ H → SqL K H a xs)
    (hs : ∀ i x σ H, i < xs.length → xs[i]? = some x → Pv i σ H → g x σ H fun σ2 H2 => tb { D with nx := Pv (i + 1), ct := Pv (i + 1), bk := D.nx } σ2 H2) (hd : ∀ σ H, Pv xs.length σ H → D.nx σ H) : FL K g tb D σ (.ref a) H :=
  ⟨a, rfl, ⟨xs, hx⟩, for_it walk_list Pv h0 hG (fun i x σ H H' hi p y => by
    obtain ⟨rfl, e⟩ := y
    exact hs i x σ _ hi e p) hd⟩
theorem z_FT (hx : SqT K H a xs) (Pv : Nat → L2.St → Hp → Prop) (h0 : Pv 0 σ H) (hG : ∀ i σ H, i ≤ xs.length → Pv i σ H → SqT K H a xs)
    (hs : ∀ i x σ H, i < xs.length → xs[i]? = some x → Pv i σ H → g x σ H fun σ2 H2 => tb { D with nx := Pv (i + 1), ct := Pv (i + 1), bk := D.nx } σ2 H2) (hd : ∀ σ H, Pv xs.length σ H → D.nx σ H) : FT K g tb D σ (.ref a) H :=
  ⟨a, rfl, ⟨xs, hx⟩, for_it walk_tup Pv h0 hG (fun i x σ H H' hi p y => by
    obtain ⟨rfl, e⟩ := y
    exact hs i x σ _ hi e p) hd⟩
theorem z_FS {z : Str} (Pv : Nat → L2.St → Hp → Prop) (h0 : Pv 0 σ H)
    (hs : ∀ i (c : Nat) σ H, i < z.cps.size → z.cps[i]? = some c → Pv i σ H → g (.str ⟨#[c]⟩) σ H fun σ2 H2 => tb { D with nx := Pv (i + 1), ct := Pv (i + 1), bk := D.nx } σ2 H2) (hd : ∀ σ H, Pv z.cps.size σ H → D.nx σ H) : FS g tb D σ (.str z) H :=
  ⟨z, rfl, for_it walk_str Pv h0 (fun _ _ _ _ _ => trivial) (fun i x σ H H' hi p y => by
    obtain ⟨rfl, c, e, rfl⟩ := y
    exact hs i c σ _ hi e p) hd⟩
theorem z_FR1 {n : Int} (hn : -(2 ^ 62) ≤ n ∧ n < 2 ^ 62) (Pv : Nat → L2.St → Hp → Prop) (h0 : Pv 0 σ H)
    (hs : ∀ (i : Nat) σ H, i < n.toNat → Pv i σ H → g (.int (i : Int)) σ H fun σ2 H2 => tb { D with nx := Pv (i + 1), ct := Pv (i + 1), bk := D.nx } σ2 H2) (hd : ∀ σ H, Pv n.toNat σ H → D.nx σ H) : FR1 g tb D σ [.int n] H :=
  ⟨n, rfl, hn.1, hn.2, for_it walk_range Pv h0 (fun _ _ _ _ _ => trivial) (fun i x σ H H' hi p y => by
    obtain ⟨rfl, rfl⟩ := y
    show g (.int (0 + (i : Int))) σ H' _
    rw [Int.zero_add]
    exact hs i σ _ hi p) hd⟩
theorem z_FZ {n : Nat} (hn : n = min xs.length ys.length) (hx : SqL K H a xs) (hy : SqL K H b ys) (Pv : Nat → L2.St → Hp → Prop) (h0 : Pv 0 σ H) (hG : ∀ i σ H, i ≤ n → Pv i σ H → SqL K H a xs ∧ SqL K H b ys)
    (hs : ∀ i x y p σ H H', i < n → xs[i]? = some x → ys[i]? = some y → Pv i σ H → Ex H H' → H p = none → H' = upd H p (.tup [x, y]) → g (.ref p) σ H' fun σ2 H2 => tb { D with nx := Pv (i + 1), ct := Pv (i + 1), bk := D.nx } σ2 H2) (hd : ∀ σ H, Pv n σ H → D.nx σ H) : FZ K g tb D σ [.ref a, .ref b] H :=
  ⟨a, b, xs, ys, rfl, hx, hy, for_it (walk_zip hn) Pv h0 hG (fun i x σ H H' hi p y => by
    obtain ⟨T, u, v, rfl, e1, rfl, e3, e4⟩ := y
    exact hs i u v T σ _ _ hi e3 e4 p (Ex.new e1) e1 rfl) hd⟩
theorem z_FE (hx : SqL K H a xs) (Pv : Nat → L2.St → Hp → Prop) (h0 : Pv 0 σ H) (hG : ∀ i σ H, i ≤ xs.length → Pv i σ H → SqL K H a xs)
    (hs : ∀ i x p σ H H', i < xs.length → xs[i]? = some x → Pv i σ H → Ex H H' → H p = none → H' = upd H p (.tup [.int (i : Nat), x]) → g (.ref p) σ H' fun σ2 H2 => tb { D with nx := Pv (i + 1), ct := Pv (i + 1), bk := D.nx } σ2 H2) (hd : ∀ σ H, Pv xs.length σ H → D.nx σ H) : FE K g tb D σ [.ref a] H :=
  ⟨a, xs, rfl, hx, for_it walk_enum Pv h0 hG (fun i x σ H H' hi p y => by
    obtain ⟨T, u, v, rfl, e1, rfl, e3, e4⟩ := y
    cases e3
    exact hs i v T σ _ _ hi e4 p (Ex.new e1) e1 rfl) hd⟩
theorem z_while {tc : TT} (W : Nat → L2.St → Hp → Prop) (m : Nat) (h0 : W m σ H) (hs : ∀ m σ H, W m σ H → tc σ H fun b H1 => if b = true then ∃ N : L2.St → Hp → Prop, (∀ σ' H', N σ' H' → ∃ m', m' < m ∧ W m' σ' H') ∧ tb { D with nx := N, ct := N, bk := D.nx } σ H1 else D.nx σ H1) : tWhile tc tb D σ H := ⟨W, ⟨m, h0⟩, hs⟩
end
/-! ### comprehensions -/
def CW (J : It) (g : TG) (tt : TT) (te : TE) (vs : List Nat) (σ : L2.St) (H1 : Hp) (Q : VK) : Prop := ∀ D, H1 D = none → ∃ W : Nat → Nat → Hp → Prop, (∃ m, W 0 m (upd H1 D (.lst []))) ∧ ∀ i m H, W i m H →
  (J.stop i H ∧ Q (.ref D) H) ∨ (J.go i H ∧ ∃ Nx : Hp → Prop, (∀ H', Nx H' → ∃ m', m' < m ∧ W (i + 1) m' H') ∧ ∀ x H', J.yld i H x H' → g x (wipe σ vs) H' fun σ2 H2 => wipe σ2 vs = wipe σ vs ∧ tt σ2 H2 fun b H3 =>
    if b = true then te σ2 H3 fun y H4 => ∃ acc, H4 D = some (.lst acc) ∧ acc.length < sizeLine ∧ Nx (upd H4 D (.lst (acc ++ [y]))) else Nx H3)
def CL (K : PySem.W.Frag) (g : TG) (tt : TT) (te : TE) (vs : List Nat) (σ : L2.St) (x : V) (H1 : Hp) (Q : VK) : Prop := ∃ a, x = .ref a ∧ (∃ xs, SqL K H1 a xs) ∧ CW (Itl K a) g tt te vs σ H1 Q
def CS (g : TG) (tt : TT) (te : TE) (vs : List Nat) (σ : L2.St) (x : V) (H1 : Hp) (Q : VK) : Prop := ∃ z, x = .str z ∧ CW (Its z) g tt te vs σ H1 Q
def CR1 (g : TG) (tt : TT) (te : TE) (vs : List Nat) (σ : L2.St) (xs : List V) (H1 : Hp) (Q : VK) : Prop := ∃ j : Int, xs = [.int j] ∧ -(2 ^ 62) ≤ j ∧ j < 2 ^ 62 ∧ CW (Itr 0 j.toNat) g tt te vs σ H1 Q
def CRv (g : TG) (tt : TT) (te : TE) (vs : List Nat) (σ : L2.St) (x : V) (H1 : Hp) (Q : VK) : Prop := ∃ n : Int, x = .int n ∧ (-(2 ^ 62) ≤ (0 : Int) ∧ (0 : Int) < 2 ^ 62 ∧ -(2 ^ 62) ≤ n ∧ n < 2 ^ 62 ∧ CW (Itc (0 + (((n - 0).toNat : Nat) : Int) - 1) (-1) (n - 0).toNat) g tt te vs σ H1 Q)
section
variable {K : PySem.W.Frag} {σ : L2.St} {H : Hp} {Q : VK} {g : TG} {tt : TT} {te tl : TE} {ta : TA} {vs : List Nat} {a : Addr} {xs : List V} {J : It} {n j : Nat} {G : Hp → Prop}
theorem z_cl (q : tl σ H fun x H1 => CL K g tt te vs σ x H1 Q) : tLc (iList K tl) g tt te vs σ H Q := q
theorem z_cs (q : tl σ H fun x H1 => CS g tt te vs σ x H1 Q) : tLc (iStr tl) g tt te vs σ H Q := q
theorem z_cr1 (q : ta σ H fun x H1 => CR1 g tt te vs σ x H1 Q) : tLc (iRng1 ta) g tt te vs σ H Q := q
theorem z_crv (q : tl σ H fun x H1 => CRv g tt te vs σ x H1 Q) : tLc (iRevR (tRg1 tl)) g tt te vs σ H Q := q
/-- things without objects of their own -/
theorem z_CW {X : Nat → V} (w : Walk J n G (fun i H x H' => H' = H ∧ x = X i)) (hn : n ≤ 40000) (hG : ∀ H', Ex H H' → G H') (f : Nat → Bool) (v : Nat → V) (hw : ∀ x, wipe ((wipe σ vs).set j (some x)) vs = wipe σ vs)
    (ht : ∀ i H', i < n → Ex H H' → Evl.EvT tt ((wipe σ vs).set j (some (X i))) H' (f i)) (he : ∀ i H', i < n → Ex H H' → f i = true → Evl.Ev te ((wipe σ vs).set j (some (X i))) H' (v i))
    (q : ∀ p H2, H p = none → Ex H H2 → H2 p = some (.lst (Evl.given n f v)) → Q (.ref p) H2) : CW J (gName j) tt te vs σ H Q := fun Dl hD =>
  lc_it w (Evl.Cw H f v Dl) ⟨hD, Ex.new hD, upd_same⟩ (fun _ _ _ p => hG _ p.2.1) (fun i x H1 H2 hi p y => by
    obtain ⟨rfl, rfl⟩ := y
    exact ⟨hw _, Evl.cw_turn p (by omega) (ht i H hi (Ex.refl H)) (fun hf => he i H hi (Ex.refl H) hf)⟩) (fun H' p => q Dl H' p.1 p.2.1 p.2.2)
theorem z_CL (hx : SqL K H a xs) (hz : xs.length ≤ 40000) (f : Nat → Bool) (v : Nat → V) (hw : ∀ x, wipe ((wipe σ vs).set j (some x)) vs = wipe σ vs)
    (ht : ∀ i x H', i < xs.length → xs[i]? = some x → Ex H H' → Evl.EvT tt ((wipe σ vs).set j (some x)) H' (f i)) (he : ∀ i x H', i < xs.length → xs[i]? = some x → Ex H H' → f i = true → Evl.Ev te ((wipe σ vs).set j (some x)) H' (v i))
    (q : ∀ p H2, H p = none → Ex H H2 → H2 p = some (.lst (Evl.given xs.length f v)) → Q (.ref p) H2) : CL K (gName j) tt te vs σ (.ref a) H Q :=
  ⟨a, rfl, ⟨xs, hx⟩, z_CW (X := fun i => xs.getD i .non) (walk_list.mono (fun _ h => h) (fun i H x H' _ _ y => ⟨y.1, by rw [List.getD_eq_getElem?_getD, y.2] <;> rfl⟩)) hz (fun _ e => ex_l e hx) f v hw
    (fun i H' hi e => ht i _ H' hi (by rw [List.getD_eq_getElem?_getD, List.getElem?_eq_getElem hi] <;> rfl) e) (fun i H' hi e hf => he i _ H' hi (by rw [List.getD_eq_getElem?_getD, List.getElem?_eq_getElem hi] <;> rfl) e hf) q⟩
theorem z_CR1 {m : Int} (hn : 0 ≤ m ∧ m ≤ 40000) (f : Nat → Bool) (v : Nat → V) (hw : ∀ x, wipe ((wipe σ vs).set j (some x)) vs = wipe σ vs)
    (ht : ∀ (i : Nat) H', i < m.toNat → Ex H H' → Evl.EvT tt ((wipe σ vs).set j (some (.int (i : Int)))) H' (f i)) (he : ∀ (i : Nat) H', i < m.toNat → Ex H H' → f i = true → Evl.Ev te ((wipe σ vs).set j (some (.int (i : Int)))) H' (v i))
    (q : ∀ p H2, H p = none → Ex H H2 → H2 p = some (.lst (Evl.given m.toNat f v)) → Q (.ref p) H2) : CR1 (gName j) tt te vs σ [.int m] H Q :=
  ⟨m, rfl, by omega, by omega, z_CW (X := fun i => .int (i : Int)) (walk_range.mono (fun _ h => h) (fun i H x H' _ _ y => ⟨y.1, by rw [y.2]; show V.int (0 + (i : Int)) = _; rw [Int.zero_add]⟩)) (by omega) (fun _ _ => trivial) f v hw ht he q⟩
theorem z_CRv {m : Nat} (hn : m ≤ 40000) (f : Nat → Bool) (v : Nat → V) (hw : ∀ x, wipe ((wipe σ vs).set j (some x)) vs = wipe σ vs)
    (ht : ∀ (i : Nat) H', i < m → Ex H H' → Evl.EvT tt ((wipe σ vs).set j (some (.int ((m - 1 - i : Nat) : Int)))) H' (f i)) (he : ∀ (i : Nat) H', i < m → Ex H H' → f i = true → Evl.Ev te ((wipe σ vs).set j (some (.int ((m - 1 - i : Nat) : Int)))) H' (v i))
    (q : ∀ p H2, H p = none → Ex H H2 → H2 p = some (.lst (Evl.given m f v)) → Q (.ref p) H2) : CRv (gName j) tt te vs σ (.int (m : Int)) H Q := by
  refine ⟨m, rfl, by decide, by decide, by omega, by omega, ?_⟩
  have e : ((m : Int) - 0).toNat = m := by omega
  rw [e]
  exact z_CW (X := fun i => .int ((m - 1 - i : Nat) : Int)) (walk_rangeC.mono (fun _ h => h) (fun i H x H' hi _ y => ⟨y.1, by
    rw [y.2]
    show V.int (0 + (m : Int) - 1 + (i : Int) * -1) = _
    congr 1
    omega⟩)) hn (fun _ _ => trivial) f v hw ht he q
theorem z_CS {z : Str} (hz : z.cps.size ≤ 40000) (f : Nat → Bool) (v : Nat → V) (hw : ∀ x, wipe ((wipe σ vs).set j (some x)) vs = wipe σ vs)
    (ht : ∀ i (c : Nat) H', i < z.cps.size → z.cps[i]? = some c → Ex H H' → Evl.EvT tt ((wipe σ vs).set j (some (.str ⟨#[c]⟩))) H' (f i)) (he : ∀ i (c : Nat) H', i < z.cps.size → z.cps[i]? = some c → Ex H H' → f i = true → Evl.Ev te ((wipe σ vs).set j (some (.str ⟨#[c]⟩))) H' (v i))
    (q : ∀ p H2, H p = none → Ex H H2 → H2 p = some (.lst (Evl.given z.cps.size f v)) → Q (.ref p) H2) : CS (gName j) tt te vs σ (.str z) H Q :=
  ⟨z, rfl, z_CW (X := fun i => .str ⟨#[z.cps.getD i 0]⟩) (walk_str.mono (fun _ h => h) (fun i H x H' _ _ y => by
      obtain ⟨e, c, e2, e3⟩ := y
      refine ⟨e, ?_⟩
      rw [e3]; congr 2; simp [Array.getD_eq_getD_getElem?, e2])) hz (fun _ _ => trivial) f v hw
    (fun i H' hi e => ht i _ H' hi (by simp [hi]) e) (fun i H' hi e hf => he i _ H' hi (by simp [hi]) e hf) q⟩
end
end Z
/-! ### data without truths: == is = -/
namespace Z
open PySem PySem.Spec PyProof.Rows L2
mutual
def cl : PyData → Bool
  | .none => true
  | .int _ => true
  | .str x => PyData.canLay0 (.str x)
  | .list xs => clAll xs
  | .tuple xs => clAll xs
  | .bool _ => false
  | .dict _ => false
def clAll : List PyData → Bool
  | [] => true
  | x :: xs => cl x && clAll xs
end
mutual
theorem cl_lay : ∀ d, cl d = true → d.canLay0 = true
  | .none, _ => rfl
  | .int _, _ => rfl
  | .str _, h => h
  | .list xs, h => clAll_lay xs h
  | .tuple xs, h => clAll_lay xs h
  | .bool _, h => by cases h
  | .dict _, h => by cases h
theorem clAll_lay : ∀ xs, clAll xs = true → PyData.canLayAll0 xs = true
  | [], _ => rfl
  | x :: xs, h => by
    have h' := Bool.and_eq_true_iff.mp (show (cl x && clAll xs) = true from h)
    show (x.canLay0 && PyData.canLayAll0 xs) = true
    rw [cl_lay x h'.1, clAll_lay xs h'.2] <;> rfl
end
mutual
theorem eqv_cl : ∀ d e : PyData, cl d = true → cl e = true → PyData.eqv d e = true → d = e
  | .none, e, _, he, h => by cases e <;> first | rfl | cases h
  | .int i, e, _, he, h => by
    cases e with
    | int j => rw [eq_of_beq (show (i == j) = true from h)]
    | bool _ => cases he
    | _ => cases h
  | .str x, e, _, he, h => by
    cases e with
    | str y => rw [eq_of_beq (show (x == y) = true from h)]
    | _ => cases h
  | .list xs, e, hd, he, h => by
    cases e with
    | list ys => rw [eqvAll_cl xs ys hd he h]
    | _ => cases h
  | .tuple xs, e, hd, he, h => by
    cases e with
    | tuple ys => rw [eqvAll_cl xs ys hd he h]
    | _ => cases h
  | .bool _, _, hd, _, _ => by cases hd
  | .dict _, _, hd, _, _ => by cases hd
theorem eqvAll_cl : ∀ xs ys : List PyData, clAll xs = true → clAll ys = true → PyData.eqvAll xs ys = true → xs = ys
  | [], [], _, _, _ => rfl
  | [], _ :: _, _, _, h => by cases h
  | _ :: _, [], _, _, h => by cases h
  | x :: xs, y :: ys, hd, he, h => by
    have h1 := Bool.and_eq_true_iff.mp (show (cl x && clAll xs) = true from hd)
    have h2 := Bool.and_eq_true_iff.mp (show (cl y && clAll ys) = true from he)
    have h3 := Bool.and_eq_true_iff.mp (show (PyData.eqv x y && PyData.eqvAll xs ys) = true from h)
    rw [eqv_cl x y h1.1 h2.1 h3.1, eqvAll_cl xs ys h1.2 h2.2 h3.2]
end
theorem eqv_iff {d e : PyData} (hd : cl d = true) (he : cl e = true) : PyData.eqv d e = true ↔ d = e :=
  ⟨eqv_cl d e hd he, fun h => by
    rw [h]
    exact SeqAt.eqv_refl e (cl_lay e he)⟩
theorem shaped_cl {d : PyData} (hd : cl d = true) (h : d.depth ≤ 64) : SeqAt.shaped d = true := Bool.and_eq_true_iff.mpr ⟨cl_lay d hd, decide_eq_true h⟩
section
variable {K : PySem.W.Frag} {H : Hp} {Q : VK} {x y : V} {d e : PyData}
/-- == over such data -/
theorem z_eqD {b : Bool} (hx : Dp K H x d) (hy : Dp K H y e) (cd : cl d = true) (ce : cl e = true) (dd : d.depth ≤ 64) (de : e.depth ≤ 64) (hb : b = true ↔ d = e) (q : Q (.bl b) H) : rEqD K x y H Q := by
  refine ⟨d, e, hx, hy, shaped_cl cd dd, shaped_cl ce de, ?_⟩
  have e2 : PyData.eqv d e = b := by
    have h := eqv_iff cd ce
    cases hb2 : PyData.eqv d e with
    | true => exact (hb.mpr (h.mp hb2)).symm
    | false =>
      cases b with
      | false => rfl
      | true => exact absurd (h.mpr (hb.mp rfl)) (by rw [hb2]; decide)
  rw [e2]
  exact q
theorem z_neD {b : Bool} (hx : Dp K H x d) (hy : Dp K H y e) (cd : cl d = true) (ce : cl e = true) (dd : d.depth ≤ 64) (de : e.depth ≤ 64) (hb : b = true ↔ d = e) (q : Q (.bl (!b)) H) : rNeD K x y H Q := by
  refine ⟨d, e, hx, hy, shaped_cl cd dd, shaped_cl ce de, ?_⟩
  have e2 : PyData.eqv d e = b := by
    have h := eqv_iff cd ce
    cases hb2 : PyData.eqv d e with
    | true => exact (hb.mpr (h.mp hb2)).symm
    | false =>
      cases b with
      | false => rfl
      | true => exact absurd (h.mpr (hb.mp rfl)) (by rw [hb2]; decide)
  rw [e2]
  exact q
theorem dp_ints : ∀ l : List Int, DpAll K H (l.map V.int) (l.map PyData.int)
  | [] => .nil
  | i :: l => .cons (.int i) (dp_ints l)
theorem cl_ints : ∀ l : List Int, clAll (l.map PyData.int) = true
  | [] => rfl
  | _ :: l => cl_ints l
theorem depth_ints : ∀ l : List Int, PyData.depthAll (l.map PyData.int) = 0
  | [] => rfl
  | i :: l => by
    show max 0 (PyData.depthAll (l.map PyData.int)) = 0
    rw [depth_ints l] <;> rfl
theorem ints_inj {l m : List Int} (h : l.map PyData.int = m.map PyData.int) : l = m := by
  have e := congrArg (List.map fun d => match d with
    | PyData.int i => i
    | _ => 0) h
  rw [List.map_map, List.map_map] at e
  have f : ∀ l : List Int, List.map ((fun d => match d with
    | PyData.int i => i
    | _ => 0) ∘ PyData.int) l = l := fun l => by
    induction l with
    | nil => rfl
    | cons a l ih => rw [List.map_cons, ih] <;> rfl
  rw [f, f] at e
  exact e
theorem z_eqL {a c : Addr} {l m : List Int} {b : Bool} (hx : SqL K H a (l.map V.int)) (hy : SqL K H c (m.map V.int)) (hb : b = true ↔ l = m) (q : Q (.bl b) H) : rEqD K (.ref a) (.ref c) H Q :=
  z_eqD (.lst hx (dp_ints l)) (.lst hy (dp_ints m)) (cl_ints l) (cl_ints m) (by show PyData.depthAll _ + 1 ≤ 64; rw [depth_ints]; decide) (by show PyData.depthAll _ + 1 ≤ 64; rw [depth_ints]; decide)
    (hb.trans ⟨fun h => by rw [h], fun h => ints_inj (by injection h)⟩) q
end
end Z
/-! ### texts as lists of signs -/
namespace Z
open PySem PySem.Spec PyProof.Rows L2
open Evl (Ex ex_l ex_t ex_rd sq_of st_of fresh_back)
def S (l : List Nat) : Str := ⟨l.toArray⟩
theorem S_len (l : List Nat) : (S l).length = l.length := by
  show l.toArray.size = _
  simp
theorem S_size (l : List Nat) : (S l).cps.size = l.length := S_len l
theorem S_tl (l : List Nat) : (S l).cps.toList = l := by
  show l.toArray.toList = l
  simp
theorem S_of (s : Str) : s = S s.cps.toList := by
  cases s with
  | mk a => simp [S]
theorem S_app (l m : List Nat) : S l ++ S m = S (l ++ m) := by
  show (⟨l.toArray ++ m.toArray⟩ : Str) = ⟨(l ++ m).toArray⟩
  simp
theorem S_inj {l m : List Nat} (h : S l = S m) : l = m := by rw [← S_tl l, h, S_tl]
theorem S_iff {l m : List Nat} : S l = S m ↔ l = m := ⟨S_inj, fun h => by rw [h]⟩
theorem S_get (l : List Nat) (i : Nat) : (S l).cps[i]? = l[i]? := by
  show l.toArray[i]? = _
  simp
/-- a slice by places -/
def cutL (l : List Nat) (lo hi : Option Int) : List Nat := (l.drop (HT.sIx l.length 0 lo)).take (HT.sIx l.length l.length hi - HT.sIx l.length 0 lo)
theorem S_cut (l : List Nat) (lo hi : Option Int) : cutS (S l) lo hi = S (cutL l lo hi) := by
  show (⟨(((S l).cps.toList.drop (HT.sIx (S l).length 0 lo)).take (HT.sIx (S l).length (S l).length hi - HT.sIx (S l).length 0 lo)).toArray⟩ : Str) = _
  rw [S_tl, S_len] <;> rfl
theorem cutL_to (l : List Nat) (n : Nat) : cutL l none (some (n : Int)) = l.take n := by
  unfold cutL
  rw [HT.sIx_none, HT.sIx_nat, List.drop_zero, Nat.sub_zero]
  by_cases h : n ≤ l.length
  · rw [Nat.min_eq_left h]
  · rw [Nat.min_eq_right (by omega), List.take_length, List.take_of_length_le (by omega)]
theorem cutL_from (l : List Nat) (n : Nat) : cutL l (some (n : Int)) none = l.drop n := by
  unfold cutL
  rw [HT.sIx_none, HT.sIx_nat]
  by_cases h : n ≤ l.length
  · rw [Nat.min_eq_left h, List.take_of_length_le (by rw [List.length_drop]; omega)]
  · rw [Nat.min_eq_right (by omega), List.drop_eq_nil_of_le (Nat.le_refl _), List.drop_eq_nil_of_le (by omega), List.take_nil]
theorem cutL_mid (l : List Nat) (m n : Nat) : cutL l (some (m : Int)) (some (n : Int)) = (l.drop m).take (n - m) := by
  unfold cutL
  rw [HT.sIx_nat, HT.sIx_nat]
  by_cases h : m ≤ l.length
  · rw [Nat.min_eq_left h]
    by_cases h2 : n ≤ l.length
    · rw [Nat.min_eq_left h2]
    · rw [Nat.min_eq_right (by omega), List.take_of_length_le (by rw [List.length_drop]; omega), List.take_of_length_le (by rw [List.length_drop]; omega)]
  · rw [List.drop_eq_nil_of_le (by omega), List.drop_eq_nil_of_le (by omega), List.take_nil, List.take_nil]
theorem cutS_le (s : Str) (lo hi : Option Int) : (cutS s lo hi).length ≤ s.length := cutS_length s lo hi
theorem join_S (ls : List (List Nat)) : Txt.join (S []) (ls.map S) = S ls.flatten := by
  rw [TL.join_eq, S_of (Str.join _ _)]
  congr 1
  show TL.tl (Str.join (S []) (ls.map S)) = _
  rw [TL.tl_join]
  have e : TL.tl (S []) = [] := rfl
  have f : ∀ ls : List (List Nat), (ls.map S).map TL.tl = ls := fun ls => by
    rw [List.map_map]
    refine (List.map_congr_left (g := id) fun l _ => S_tl l).trans (List.map_id _)
  rw [e, f]
  have g : ∀ ls : List (List Nat), TL.joinL [] ls = ls.flatten := fun ls => by
    induction ls with
    | nil => rfl
    | cons a r ih =>
      cases r with
      | nil => simp [TL.joinL]
      | cons b r => simp [TL.joinL, ih] at *
  exact g ls
theorem txt_app_len (s z : Str) : (s ++ z).length = s.length + z.length := by
  show (s.cps ++ z.cps).size = _
  rw [Array.size_append] <;> rfl
theorem mul_len (s : Str) (n : Int) (hn : 0 ≤ n) : (Txt.mul s n).length ≤ s.length * n.toNat := by
  unfold Txt.mul
  by_cases h : n < 1
  · rw [if_pos h]
    exact Nat.zero_le _
  · rw [if_neg h]
    by_cases h2 : (n == 1 || s.length == 0) = true
    · rw [if_pos h2]
      exact Nat.le_mul_of_pos_right _ (by omega)
    · rw [if_neg h2]
      show ((List.replicate n.toNat s.cps).foldl (· ++ ·) #[]).size ≤ _
      have g : ∀ (k : Nat) (a : Array Nat), ((List.replicate k s.cps).foldl (· ++ ·) a).size = a.size + s.length * k := fun k => by
        induction k with
        | zero => intro a; simp
        | succ k ih =>
          intro a
          rw [List.replicate_succ, List.foldl_cons, ih, Array.size_append, Nat.mul_succ]
          show a.size + s.cps.size + s.length * k = a.size + (s.length * k + s.cps.size)
          omega
      rw [g]
      simp
theorem mul_ok (s : Str) (n : Int) (h0 : 0 ≤ n) (hn : n ≤ 1000) (hs : s.length ≤ 1000) : MulOk s n := by
  refine ⟨by rw [decide_eq_false (by omega), decide_eq_false (by omega)] <;> rfl, fun h _ => ?_, fun h _ => ?_⟩
  · have : (2 ^ 63 - 1) / 1000 ≤ (2 ^ 63 - 1 : Int) / n := by
      rw [Int.le_ediv_iff_mul_le (by omega)]
      have : (2 ^ 63 - 1 : Int) / 1000 * n ≤ (2 ^ 63 - 1) / 1000 * 1000 := Int.mul_le_mul_of_nonneg_left hn (by decide)
      exact Int.le_trans this (by decide)
    have e : ((2 ^ 63 - 1 : Int)) / 1000 = 9223372036854775 := by decide
    omega
  · have : s.length * n.toNat ≤ 1000 * 1000 := Nat.mul_le_mul hs (by omega)
    show decide (s.length * n.toNat > sizeLine) = false
    exact decide_eq_false (by rw [sizeLine_eq]; omega)
end Z
/-! ### a head's facts and one test more -/
namespace Z
open PySem PySem.Spec PyProof.Rows L2 He
def lookZ (fa : List Fa) (fn : List DefD) (ex : PySem.W.Frag → Bool) (n : Nat) (g : Addr → Option Obj) : AlD × Bool :=
  (obsD fa fn (frG g (asD g n)), ex (frG g (asD g n)))
def hookZ (fa : List Fa) (fn : List DefD) (ex : PySem.W.Frag → Bool) (n : Nat) : PySem.W.Hook where
  α := AlD × Bool
  obs := fun st => lookZ fa fn ex n st.heap.get?
  val := fun _ => (valD fn, true)
  says := fun _ hp => ∃ F : PySem.W.Frag, F.In hp ∧ SaysD fa fn F ∧ ex F = true
  of := fun _ _ eq => ⟨_, frG_in, congrArg Prod.fst eq, congrArg Prod.snd eq⟩
  keeps := fun _ _ _ ⟨F, hF, cF, xF⟩ kp => ⟨F, PySem.W.Frag.In.keeps hF kp, cF, xF⟩
theorem lookZ_eq {fa : List Fa} {fn : List DefD} {ex : PySem.W.Frag → Bool} {n : Nat} {g : Addr → Option Obj} {st : Shared} (hg : ∀ a, g a = st.heap.get? a) : lookZ fa fn ex n g = (hookZ fa fn ex n).obs st := by
  have e : g = st.heap.get? := funext hg
  subst e
  rfl
end Z
/-! ### data, an elder heap's -/
namespace Z
open PySem PySem.Spec PyProof.Rows L2
open Evl (Ex ex_l ex_t ex_rd sq_of st_of fresh_back)
mutual
theorem dp_mono {K : PySem.W.Frag} {H H' : Hp} (e : Ex H H') : ∀ {v : V} {d : PyData}, Dp K H v d → Dp K H' v d
  | _, _, .non => .non
  | _, _, .bl b => .bl b
  | _, _, .int i => .int i
  | _, _, .str x => .str x
  | _, _, .lst s a => .lst (ex_l e s) (dpAll_mono e a)
  | _, _, .tup s a => .tup (ex_t e s) (dpAll_mono e a)
theorem dpAll_mono {K : PySem.W.Frag} {H H' : Hp} (e : Ex H H') : ∀ {vs : List V} {ds : List PyData}, DpAll K H vs ds → DpAll K H' vs ds
  | _, _, .nil => .nil
  | _, _, .cons a r => .cons (dp_mono e a) (dpAll_mono e r)
end
theorem dpAll_app {K : PySem.W.Frag} {H : Hp} : ∀ {vs us : List V} {ds es : List PyData}, DpAll K H vs ds → DpAll K H us es → DpAll K H (vs ++ us) (ds ++ es)
  | _, _, _, _, .nil, b => b
  | _, _, _, _, .cons a r, b => .cons a (dpAll_app r b)
theorem dpAll_len {K : PySem.W.Frag} {H : Hp} : ∀ {vs : List V} {ds : List PyData}, DpAll K H vs ds → vs.length = ds.length
  | _, _, .nil => rfl
  | _, _, .cons _ r => by rw [List.length_cons, List.length_cons, dpAll_len r]
theorem dpAll_get {K : PySem.W.Frag} {H : Hp} : ∀ {vs : List V} {ds : List PyData} {i : Nat} {v : V}, DpAll K H vs ds → vs[i]? = some v → ∃ d, ds[i]? = some d ∧ Dp K H v d
  | _, _, _, _, .nil, h => by simp at h
  | _, _, 0, _, .cons a _, h => by
    cases h
    exact ⟨_, rfl, a⟩
  | _, _, i + 1, _, .cons _ r, h => dpAll_get (i := i) r h
theorem ty_tup {K : PySem.W.Frag} {H : Hp} {a : Addr} {xs : List V} (h : SqT K H a xs) : TyX K H (.ref a) (.type "tuple") := by
  rcases h with (h | ⟨o, h⟩) | ⟨o, its, n, h, hc, _⟩
  · exact .base (.tup h)
  · exact .fTuple h
  · exact .kTuple h hc
theorem ty_lst {K : PySem.W.Frag} {H : Hp} {a : Addr} {xs : List V} (h : SqL K H a xs) : TyX K H (.ref a) (.type "list") := by
  rcases h with (h | ⟨o, h⟩) | ⟨o, its, n, h, hc, _⟩
  · exact .base (.lst h)
  · exact .base (.frz h)
  · exact .kList h hc
/-- a new thing that bears data: I, what was known, grows to J -/
def RetD (K : PySem.W.Frag) (d : PyData) (I H : Hp) (Q : VK) : Prop :=
  ∀ v J H', Ex I J → Ex H H' → Ex J H' → (∀ a o, H a = some o → I a = none → J a = none) → Dp K J v d → Q v H'
/-- a new list of such things -/
def RetLD (K : PySem.W.Frag) (ds : List PyData) (H : Hp) (Q : VK) : Prop :=
  ∀ p xs H', H p = none → Ex H H' → H' p = some (.lst xs) → DpAll K H' xs ds → Q (.ref p) H'
/-- a new tuple over what is known -/
theorem RetD.tup {K : PySem.W.Frag} {ds : List PyData} {I H : Hp} {Q : VK} {p : Addr} {xs : List V} (q : RetD K (.tuple ds) I H Q) (e : Ex I H) (hp : H p = none) (h : DpAll K I xs ds) : Q (.ref p) (upd H p (.tup xs)) := by
  have ip : I p = none := fresh_back e hp
  refine q (.ref p) (upd I p (.tup xs)) _ (Ex.new ip) (Ex.new hp) (fun b o hb => ?_) (fun a o ha hI => ?_) (.tup (st_of upd_same) (dpAll_mono (Ex.new ip) h))
  · by_cases hbp : b = p
    · subst hbp
      rw [upd_same] at hb ⊢
      exact hb
    · rw [upd_ne hbp] at hb ⊢
      exact e b o hb
  · have ne : a ≠ p := fun z => by
      rw [z, hp] at ha
      cases ha
    rw [upd_ne ne]
    exact hI
end Z

set_option linter.all false
set_option maxHeartbeats 1000000
namespace M01
def bitsN : Nat → Nat → List Nat
  | 0, _ => []
  | n + 1, w => (w % 2) :: bitsN n (w / 2)
def numN : List Nat → Nat
  | [] => 0
  | b :: r => b + 2 * numN r
theorem pow_s (n : Nat) : 2 ^ (n + 1) = 2 * 2 ^ n := by rw [Nat.pow_succ, Nat.mul_comm]
theorem mod_s (x n : Nat) : x % 2 ^ (n + 1) = x % 2 + 2 * (x / 2 % 2 ^ n) := by rw [pow_s, Nat.mod_mul]
theorem bits_len : ∀ n w, (bitsN n w).length = n
  | 0, _ => rfl
  | n + 1, w => by rw [bitsN, List.length_cons, bits_len n]
theorem num_bits : ∀ n w, numN (bitsN n w) = w % 2 ^ n
  | 0, w => by rw [bitsN, numN, Nat.pow_zero, Nat.mod_one]
  | n + 1, w => by rw [bitsN, numN, num_bits n, mod_s]
theorem bits_lt : ∀ n w, ∀ b ∈ bitsN n w, b < 2
  | 0, _, b, h => by simp [bitsN] at h
  | n + 1, w, b, h => by
    rw [bitsN, List.mem_cons] at h
    rcases h with rfl | h
    · exact Nat.mod_lt _ (by decide)
    · exact bits_lt n _ b h
theorem num_app : ∀ (xs ys : List Nat), numN (xs ++ ys) = numN xs + 2 ^ xs.length * numN ys
  | [], ys => by simp [numN]
  | x :: xs, ys => by
    rw [List.cons_append, numN, numN, num_app xs, List.length_cons, pow_s, Nat.mul_add, Nat.mul_assoc, Nat.add_assoc]
theorem bits_inj {n a b : Nat} (ha : a < 2 ^ n) (hb : b < 2 ^ n) (h : bitsN n a = bitsN n b) : a = b := by
  have e := congrArg numN h
  rw [num_bits, num_bits, Nat.mod_eq_of_lt ha, Nat.mod_eq_of_lt hb] at e
  exact e
/-- sign by sign -/
theorem zip_num (f : Nat → Nat → Nat) (g : Nat → Nat → Nat) (h2 : ∀ a b, g a b / 2 = g (a / 2) (b / 2)) (h1 : ∀ a b, g a b % 2 = f (a % 2) (b % 2)) :
    ∀ n a b, numN (List.zipWith f (bitsN n a) (bitsN n b)) = g a b % 2 ^ n
  | 0, a, b => by rw [bitsN, bitsN, List.zipWith_nil_left, numN, Nat.pow_zero, Nat.mod_one]
  | n + 1, a, b => by rw [bitsN, bitsN, List.zipWith_cons_cons, numN, zip_num f g h2 h1 n, mod_s, h2, h1]
theorem lt2 {f : Nat → Nat → Nat} {g : Nat → Nat → Nat} (h : ∀ i, i < 2 → ∀ j, j < 2 → g i j = f i j) (a b : Nat) : g (a % 2) (b % 2) = f (a % 2) (b % 2) := h _ (Nat.mod_lt _ (by decide)) _ (Nat.mod_lt _ (by decide))
theorem and2 (a b : Nat) : (a &&& b) % 2 = a % 2 * (b % 2) := by
  have e : (a &&& b) % 2 = (a % 2 &&& b % 2) := by
    have := Nat.and_mod_two_pow (a := a) (b := b) (n := 1)
    simpa using this
  rw [e]
  exact lt2 (f := fun i j => i * j) (g := fun i j => i &&& j) (by decide) a b
theorem or2 (a b : Nat) : (a ||| b) % 2 = max (a % 2) (b % 2) := by
  have e : (a ||| b) % 2 = (a % 2 ||| b % 2) := by
    have := Nat.or_mod_two_pow (a := a) (b := b) (n := 1)
    simpa using this
  rw [e]
  exact lt2 (f := fun i j => max i j) (g := fun i j => i ||| j) (by decide) a b
theorem xor2 (a b : Nat) : (a ^^^ b) % 2 = (a % 2 + b % 2) % 2 := by
  have e : (a ^^^ b) % 2 = (a % 2 ^^^ b % 2) := by
    have := Nat.xor_mod_two_pow (a := a) (b := b) (n := 1)
    simpa using this
  rw [e]
  exact lt2 (f := fun i j => (i + j) % 2) (g := fun i j => i ^^^ j) (by decide) a b
theorem num_and (n a b : Nat) : numN (List.zipWith (fun i j => i * j) (bitsN n a) (bitsN n b)) = (a &&& b) % 2 ^ n := zip_num _ (fun a b => a &&& b) (fun a b => Nat.and_div_two) and2 n a b
theorem num_or (n a b : Nat) : numN (List.zipWith (fun i j => max i j) (bitsN n a) (bitsN n b)) = (a ||| b) % 2 ^ n := zip_num _ (fun a b => a ||| b) (fun a b => Nat.or_div_two) or2 n a b
theorem num_xor (n a b : Nat) : numN (List.zipWith (fun i j => (i + j) % 2) (bitsN n a) (bitsN n b)) = (a ^^^ b) % 2 ^ n := zip_num _ (fun a b => a ^^^ b) (fun a b => Nat.xor_div_two) xor2 n a b
/-- what goes over -/
def sumN : Nat → List Nat → List Nat → List Nat
  | c, x :: xs, y :: ys => ((x + y + c) % 2) :: sumN ((x + y + c) / 2) xs ys
  | _, _, _ => []
theorem num_sum : ∀ n a b c, numN (sumN c (bitsN n a) (bitsN n b)) = (a + b + c) % 2 ^ n
  | 0, a, b, c => by rw [bitsN, bitsN, sumN, numN, Nat.pow_zero, Nat.mod_one] <;> simp
  | n + 1, a, b, c => by
    rw [bitsN, bitsN, sumN, numN, num_sum n, mod_s]
    have e1 : (a + b + c) % 2 = (a % 2 + b % 2 + c) % 2 := by omega
    have e2 : (a + b + c) / 2 = a / 2 + b / 2 + (a % 2 + b % 2 + c) / 2 := by omega
    rw [e1, e2]
theorem flip_bits : ∀ n b, (bitsN n b).map (fun x => 1 - x) = bitsN n (2 ^ n - 1 - b % 2 ^ n)
  | 0, _ => rfl
  | n + 1, b => by
    have h := mod_s b n
    have p := pow_s n
    have q : b / 2 % 2 ^ n < 2 ^ n := Nat.mod_lt _ (Nat.two_pow_pos n)
    rw [bitsN, bitsN, List.map_cons, flip_bits n]
    have e1 : 1 - b % 2 = (2 ^ (n + 1) - 1 - b % 2 ^ (n + 1)) % 2 := by omega
    have e2 : 2 ^ n - 1 - b / 2 % 2 ^ n = (2 ^ (n + 1) - 1 - b % 2 ^ (n + 1)) / 2 := by omega
    rw [e1, e2]
theorem num_sub (n a b : Nat) (hb : b < 2 ^ n) : numN (sumN 1 (bitsN n a) ((bitsN n b).map fun x => 1 - x)) = (a + (2 ^ n - b)) % 2 ^ n := by
  rw [flip_bits, num_sum, Nat.mod_eq_of_lt hb]
  congr 1
  omega
theorem num_flip (n a : Nat) (ha : a < 2 ^ n) : numN ((bitsN n a).map fun x => 1 - x) = 2 ^ n - 1 - a := by
  rw [flip_bits, num_bits, Nat.mod_eq_of_lt ha, Nat.mod_eq_of_lt (by omega)]
/-- the top bit -/
theorem bits_top : ∀ n w, bitsN (n + 1) w = bitsN n w ++ [w / 2 ^ n % 2]
  | 0, w => by simp [bitsN]
  | n + 1, w => by
    rw [bitsN, bits_top n, bitsN, List.cons_append, Nat.div_div_eq_div_mul, pow_s]
def fd : List (Nat × Nat) → Nat
  | [] => 0
  | p :: t => if p.1 = p.2 then fd t else if p.1 < p.2 then 1 else 0
theorem fd_bits : ∀ n a b, fd (List.zip (bitsN n a).reverse (bitsN n b).reverse) = if a % 2 ^ n < b % 2 ^ n then 1 else 0
  | 0, a, b => by simp [bitsN, fd, Nat.mod_one]
  | n + 1, a, b => by
    rw [bits_top, bits_top, List.reverse_append, List.reverse_append]
    show fd ((a / 2 ^ n % 2, b / 2 ^ n % 2) :: List.zip (bitsN n a).reverse (bitsN n b).reverse) = _
    have ea : a % 2 ^ (n + 1) = a % 2 ^ n + 2 ^ n * (a / 2 ^ n % 2) := by rw [Nat.pow_succ, Nat.mod_mul]
    have eb : b % 2 ^ (n + 1) = b % 2 ^ n + 2 ^ n * (b / 2 ^ n % 2) := by rw [Nat.pow_succ, Nat.mod_mul]
    have la : a % 2 ^ n < 2 ^ n := Nat.mod_lt _ (Nat.two_pow_pos n)
    have lb : b % 2 ^ n < 2 ^ n := Nat.mod_lt _ (Nat.two_pow_pos n)
    have ta := Nat.mod_two_eq_zero_or_one (a / 2 ^ n)
    have tb := Nat.mod_two_eq_zero_or_one (b / 2 ^ n)
    rw [fd, fd_bits n, ea, eb]
    rcases ta with ta | ta <;> rcases tb with tb | tb <;> rw [ta, tb] <;> simp
    · omega
    · omega
theorem bits_drop : ∀ k n w, (bitsN n w).drop k = bitsN (n - k) (w / 2 ^ k)
  | 0, n, w => by simp
  | k + 1, 0, w => by simp [bitsN]
  | k + 1, n + 1, w => by
    rw [bitsN, List.drop_succ_cons, bits_drop k n, Nat.div_div_eq_div_mul, pow_s, Nat.add_sub_add_right]
theorem bits_take : ∀ k n w, (bitsN n w).take k = bitsN (min k n) w
  | 0, n, w => by simp [bitsN]
  | k + 1, 0, w => by simp [bitsN]
  | k + 1, n + 1, w => by
    rw [bitsN, List.take_succ_cons, bits_take k n, Nat.add_min_add_right, bitsN]
theorem num_cut (n a low many : Nat) (ha : a < 2 ^ n) : numN (((bitsN n a).drop low).take many) = a / 2 ^ low % 2 ^ many := by
  rw [bits_drop, bits_take, num_bits]
  by_cases h : many ≤ n - low
  · rw [Nat.min_eq_left h]
  · have h2 : n - low ≤ many := by omega
    rw [Nat.min_eq_right h2]
    have l1 : a / 2 ^ low < 2 ^ (n - low) := by
      by_cases hl : low ≤ n
      · rw [Nat.div_lt_iff_lt_mul (Nat.two_pow_pos low), ← Nat.pow_add]
        rw [show n - low + low = n by omega]
        exact ha
      · have : a < 2 ^ low := Nat.lt_of_lt_of_le ha (Nat.pow_le_pow_right (by decide) (by omega))
        rw [Nat.div_eq_of_lt this]
        exact Nat.two_pow_pos _
    rw [Nat.mod_eq_of_lt l1, Nat.mod_eq_of_lt (Nat.lt_of_lt_of_le l1 (Nat.pow_le_pow_right (by decide) h2))]
theorem num_ones (n : Nat) : numN (List.replicate n 1) = 2 ^ n - 1 := by
  induction n with
  | zero => rfl
  | succ n ih =>
    have p := Nat.two_pow_pos n
    rw [List.replicate_succ, numN, ih, pow_s]
    omega
end M01

set_option Elab.async false
set_option linter.all false
set_option maxRecDepth 100000
set_option maxHeartbeats 4000000
namespace K02
open PySem PySem.Spec PyProof.Rows L2 Z
open Evl (Ex ex_l ex_t sq_of st_of fresh_back RetL RetV)
local macro_rules | `(tactic| walk_at "zc") => `(tactic| first
  | (show (0 : Int) < _; omega)
  | exact ⟨by decide, by decide⟩
  | exact Or.inl ⟨by decide, by decide⟩
  | exact Or.inr ⟨by decide, by decide⟩
  | exact ⟨by decide, by decide, by decide⟩
  | exact Or.inl ⟨by omega, by omega⟩
  | exact Or.inr ⟨by omega, by omega⟩)
local macro_rules | `(tactic| walk_at "sq") => `(tactic| first
  | assumption
  | exact sq_of (by assumption)
  | exact sq_of upd_same
  | exact st_of (by assumption)
  | exact st_of upd_same
  | (refine ex_l (by assumption) ?_; walk_at "sq")
  | (refine ex_t (by assumption) ?_; walk_at "sq")
  | (refine ex_l (Ex.new (by assumption)) ?_; walk_at "sq")
  | (refine ex_t (Ex.new (by assumption)) ?_; walk_at "sq"))
local macro_rules | `(tactic| walk_at "ex") => `(tactic| first
  | exact Ex.refl _
  | assumption
  | (refine Ex.trans ?_ (Ex.new (by assumption)); walk_at "ex")
  | ((refine' Ex.trans ?_ ?zx); (case zx => assumption); walk_at "ex"))
local macro_rules | `(tactic| walk_at "z1") => `(tactic| first
  | with_reducible exact trivial
  | with_reducible refine z_seq ?_
  | with_reducible refine z_asg ?_
  | with_reducible refine z_ret ?_
  | with_reducible refine z_ifs ?_
  | with_reducible refine z_op ?_
  | with_reducible refine z_c ?_
  | ((with_reducible refine' z_var ?zh ?_); (case zh => exact rfl))
  | with_reducible refine z_i0 ?_
  | with_reducible refine z_gname ?_
  | ((with_reducible refine z_i ?zh ?_); (case zh => walk_at "zc"))
  | with_reducible refine z_next ?_
  | with_reducible refine z_test ?_
  | with_reducible refine z_tB ?_
  | with_reducible refine z_bl ?_
  | ((with_reducible refine z_eq ?zh ?_); (case zh => rfl))
  | ((with_reducible refine z_ne ?zh ?_); (case zh => rfl))
  | with_reducible refine z_cons ?_
  | with_reducible refine z_nil ?_
  | with_reducible refine z_call ?_
  | with_reducible refine z_cb ?_
  | with_reducible refine z_lst ?_
  | with_reducible refine z_tup ?_
  | with_reducible refine z_un ?_
  | with_reducible refine z_u ?_
  | with_reducible refine z_if ?_
  | with_reducible refine z_andT ?_
  | with_reducible refine z_orT ?_
  | with_reducible refine z_notT ?_
  | with_reducible refine z_trub ?_
  | with_reducible refine z_trui ?_
  | with_reducible refine z_trun ?_
  | with_reducible refine z_tru ?_
  | with_reducible refine z_and ?_
  | with_reducible refine z_or ?_
  | with_reducible refine z_not ?_
  | with_reducible refine z_yes ?_
  | with_reducible refine z_isN ?_
  | with_reducible refine z_notN ?_
  | with_reducible refine z_chain ?_
  | with_reducible refine z_int1 ?_
  | with_reducible refine z_intb ?_
  | with_reducible refine z_max2 ?_
  | with_reducible refine z_min2 ?_
  | with_reducible refine z_revL ?_
  | with_reducible refine z_nopart ?_
  | with_reducible refine z_part ?_
  | with_reducible refine z_part1 ?_
  | with_reducible refine z_sl ?_
  | with_reducible refine z_drop ?_
  | with_reducible refine z_bm ?_
  | with_reducible refine z_bm0 ?_
  | with_reducible refine z_tys ?_
  | with_reducible refine z_brk ?_
  | with_reducible refine z_cont ?_
  | with_reducible refine z_retN ?_
  | with_reducible refine z_fl ?_
  | with_reducible refine z_ft ?_
  | with_reducible refine z_fs ?_
  | with_reducible refine z_fr1 ?_
  | with_reducible refine z_fr2 ?_
  | with_reducible refine z_fz ?_
  | with_reducible refine z_fe ?_
  | with_reducible refine z_cl ?_
  | with_reducible refine z_cs ?_
  | with_reducible refine z_cr1 ?_
  | with_reducible refine z_crv ?_
  | with_reducible refine z_isbl ?_
  | with_reducible refine z_notbl ?_
  | with_reducible refine ite_t ?_
  | with_reducible refine ite_f ?_
  | ((with_reducible refine' z_aug ?zh ?_); (case zh => exact rfl))
  | with_reducible refine z_ipi ?_)
local macro_rules | `(tactic| walk_at "zz") => `(tactic| repeat walk_at "z1")

open M01
def sbits (n x : Nat) : Str := S ((bitsN n x).reverse.map fun b => 48 + b)
theorem sbits_len (n x : Nat) : (sbits n x).length = n := by
  unfold sbits
  rw [S_len, List.length_map, List.length_reverse, bits_len]
/-- what signs 0 and 1 tell -/
def num2 (l : List Nat) : Nat := l.foldl (fun a c => 2 * a + (c - 48)) 0
def bit01 (l : List Nat) : Bool := l.all fun c => c == 48 || c == 49
def rdT (t : Str) : V := if 1 ≤ t.length ∧ t.length ≤ 64 ∧ bit01 t.cps.toList = true then .int (num2 t.cps.toList : Nat) else .non
/-- no whole number -/
def Odd (H : Hp) (v : V) : Prop := (∃ b, v = .bl b) ∨ v = .non ∨ (∃ s, v = .str s) ∨ ∃ a, v = .ref a ∧ ((∃ xs, H a = some (.lst xs)) ∨ (∃ xs, H a = some (.tup xs)) ∨ ∃ kvs, H a = some (.dK kvs))
theorem Odd.mono {H H' : Hp} {v : V} (e : Ex H H') (h : Odd H v) : Odd H' v := by
  rcases h with h | h | h | ⟨a, ha, ⟨xs, h⟩ | ⟨xs, h⟩ | ⟨xs, h⟩⟩
  · exact .inl h
  · exact .inr (.inl h)
  · exact .inr (.inr (.inl h))
  · exact .inr (.inr (.inr ⟨a, ha, .inl ⟨xs, e a _ h⟩⟩))
  · exact .inr (.inr (.inr ⟨a, ha, .inr (.inl ⟨xs, e a _ h⟩)⟩))
  · exact .inr (.inr (.inr ⟨a, ha, .inr (.inr ⟨xs, e a _ h⟩)⟩))
def isStr : V → Bool
  | .str _ => true
  | _ => false
def sp_L_mixed : Sp := fun vs H Q _ => ∃ c k : Int, vs = [.int c, .int k] ∧ (0 ≤ k ∧ k ≤ 100) ∧ ∀ m : Int, 0 ≤ m → m < 2147483629 → RetV (.int m) H Q
def sp_L_whole (K : PySem.W.Frag) : Sp := fun vs H Q _ => ∃ (v : V) (b : Bool), vs = [v] ∧ ((∃ i : Int, v = .int i ∧ b = true) ∨ (Odd H v ∧ b = false)) ∧ RetV (.bl b) H Q
def sp_is_whole (K : PySem.W.Frag) : Sp := fun vs H Q _ => ∃ (v : V) (b : Bool), vs = [v] ∧ ((∃ i : Int, v = .int i ∧ b = true) ∨ (Odd H v ∧ b = false)) ∧ RetV (.bl b) H Q
def sp_is_width (K : PySem.W.Frag) : Sp := fun vs H Q _ => ∃ (v : V) (b : Bool), vs = [v] ∧ ((∃ i : Int, v = .int i ∧ b = decide (1 ≤ i ∧ i ≤ 64)) ∨ (Odd H v ∧ b = false)) ∧ RetV (.bl b) H Q
def sp_is_word (K : PySem.W.Frag) : Sp := fun vs H Q _ => ∃ (v : V) (n : Nat) (b : Bool), vs = [v, .int (n : Int)] ∧ n ≤ 64 ∧ ((∃ i : Int, v = .int i ∧ b = decide (0 ≤ i ∧ i < ((2 ^ n : Nat) : Int))) ∨ (Odd H v ∧ b = false)) ∧ RetV (.bl b) H Q
def sp_top_of : Sp := fun vs H Q _ => ∃ n : Nat, vs = [.int (n : Int)] ∧ n ≤ 64 ∧ RetV (.int ((2 ^ n - 1 : Nat) : Int)) H Q
def sp_joined_words : Sp := fun vs H Q _ => ∃ (h l n : Nat), vs = [.int (h : Int), .int (l : Int), .int (n : Int)] ∧ n ≤ 64 ∧ l < 2 ^ n ∧ h < 2 ^ 64 ∧ RetV (.int ((l + 2 ^ n * h : Nat) : Int)) H Q
def sp_bits_text : Sp := fun vs H Q _ => ∃ (x n : Nat), vs = [.int (x : Int), .int (n : Int)] ∧ n ≤ 64 ∧ RetV (.str (sbits n x)) H Q
def sp_word_by_bits (K : PySem.W.Frag) : Sp := fun vs H Q _ => ∃ (v r : V), vs = [v] ∧ ((∃ t : Str, v = .str t ∧ t.length ≤ 1000 ∧ r = rdT t) ∨ (Odd H v ∧ isStr v = false ∧ r = .non)) ∧ RetV r H Q
def sp_L_word : Sp := fun vs H Q _ => ∃ (c : Int) (w : Nat), vs = [.int c, .int (w : Int)] ∧ (0 ≤ c ∧ c < 2147483629 ∧ 1 ≤ w ∧ w ≤ 64) ∧ ∀ v : Nat, v < 2 ^ w → RetV (.int (v : Int)) H Q
def sp_L_text : Sp := fun vs H Q _ => ∃ (x n : Nat), vs = [.int (x : Int), .int (n : Int)] ∧ n ≤ 64 ∧ RetV (.str (sbits n x)) H Q
def sp_L_read : Sp := fun vs H Q _ => ∃ (t : Str), vs = [.str t] ∧ t.length ≤ 1000 ∧ RetV (rdT t) H Q
def sp_L_bent : Sp := fun vs H Q _ => ∃ (t : Str) (m : Int), vs = [.str t, .int m] ∧ t.length ≤ 64 ∧ 0 ≤ m ∧ ∀ t' : Str, t'.length ≤ 1000 → RetV (.str t') H Q
def sp_L_truth : Sp := fun vs H Q _ => ∃ (a b : Bool), vs = [.bl a, .bl b] ∧ RetV (.bl (decide (a = b))) H Q
def sp_L_right : Sp := fun vs H Q _ => ∃ c : Int, vs = [.int c] ∧ (0 ≤ c ∧ c < 1000000007) ∧ RetV (.bl true) H Q
def sp_law (K : PySem.W.Frag) : Sp := fun vs H Q _ => ∃ (a : Addr) (ns : List Int), vs = [.ref a] ∧ SqL K H a (ns.map V.int) ∧ ns.length ≤ 63 ∧ RetV (.bl true) H Q

theorem len_L_word : ∀ vs H Q E, sp_L_word vs H Q E → vs.length = 2 := by
  intro vs H Q E h
  obtain ⟨_, _, rfl, _⟩ := h
  rfl
theorem len_L_mixed : ∀ vs H Q E, sp_L_mixed vs H Q E → vs.length = 2 := by
  intro vs H Q E h
  obtain ⟨_, _, rfl, _⟩ := h
  rfl
theorem len_L_truth : ∀ vs H Q E, sp_L_truth vs H Q E → vs.length = 2 := by
  intro vs H Q E h
  obtain ⟨_, _, rfl, _⟩ := h
  rfl
theorem len_is_whole {K : PySem.W.Frag} : ∀ vs H Q E, sp_is_whole K vs H Q E → vs.length = 1 := by
  intro vs H Q E h
  obtain ⟨_, _, rfl, _⟩ := h
  rfl
theorem len_top_of : ∀ vs H Q E, sp_top_of vs H Q E → vs.length = 1 := by
  intro vs H Q E h
  obtain ⟨_, rfl, _⟩ := h
  rfl
theorem len_is_word {K : PySem.W.Frag} : ∀ vs H Q E, sp_is_word K vs H Q E → vs.length = 2 := by
  intro vs H Q E h
  obtain ⟨_, _, _, rfl, _⟩ := h
  rfl
theorem len_is_width {K : PySem.W.Frag} : ∀ vs H Q E, sp_is_width K vs H Q E → vs.length = 1 := by
  intro vs H Q E h
  obtain ⟨_, _, rfl, _⟩ := h
  rfl
theorem len_bits_text : ∀ vs H Q E, sp_bits_text vs H Q E → vs.length = 2 := by
  intro vs H Q E h
  obtain ⟨_, _, rfl, _⟩ := h
  rfl
theorem len_L_text : ∀ vs H Q E, sp_L_text vs H Q E → vs.length = 2 := by
  intro vs H Q E h
  obtain ⟨_, _, rfl, _⟩ := h
  rfl
theorem len_L_whole {K : PySem.W.Frag} : ∀ vs H Q E, sp_L_whole K vs H Q E → vs.length = 1 := by
  intro vs H Q E h
  obtain ⟨_, _, rfl, _⟩ := h
  rfl
theorem len_joined_words : ∀ vs H Q E, sp_joined_words vs H Q E → vs.length = 3 := by
  intro vs H Q E h
  obtain ⟨_, _, _, rfl, _⟩ := h
  rfl
theorem len_word_by_bits {K : PySem.W.Frag} : ∀ vs H Q E, sp_word_by_bits K vs H Q E → vs.length = 1 := by
  intro vs H Q E h
  obtain ⟨_, _, rfl, _⟩ := h
  rfl
theorem len_L_bent : ∀ vs H Q E, sp_L_bent vs H Q E → vs.length = 2 := by
  intro vs H Q E h
  obtain ⟨_, _, rfl, _⟩ := h
  rfl
theorem len_L_read : ∀ vs H Q E, sp_L_read vs H Q E → vs.length = 1 := by
  intro vs H Q E h
  obtain ⟨_, rfl, _⟩ := h
  rfl
theorem len_L_right : ∀ vs H Q E, sp_L_right vs H Q E → vs.length = 1 := by
  intro vs H Q E h
  obtain ⟨_, rfl, _⟩ := h
  rfl
theorem len_law {K : PySem.W.Frag} : ∀ vs H Q E, sp_law K vs H Q E → vs.length = 1 := by
  intro vs H Q E h
  obtain ⟨_, _, rfl, _⟩ := h
  rfl

/-- L_word -/
def rd_L_word (K : PySem.W.Frag) : TS :=
  (tSeq (tAsg (tOp rSubI (tOp rShlI (tC (.int 1)) (tVar 1)) (tC (.int 1))) (gName 2))
    (tSeq (tAsg (tOp rMulI (tOp rDivI (tVar 0) (tC (.int 6))) (tOp rPowI (tC (.int 48271)) (tC (.int 7)))) (gName 3))
    (tSeq (tAsg (tOp rShlI (tC (.int 1)) (tOp rModI (tOp rDivI (tVar 0) (tC (.int 6))) (tVar 1))) (gName 4))
    (tRet (tOp (rIxL K) (tLst (tCons (tC (.int 0)) (tCons (tC (.int 1)) (tCons (tVar 2) (tCons (tVar 4) (tCons (tOp rSubI (tVar 4) (tC (.int 1))) (tCons (tOp rModI (tVar 3) (tOp rAddI (tVar 2) (tC (.int 1)))) tNil))))))) (tOp rModI (tVar 0) (tC (.int 6))))))))


/-- L_mixed -/
def rd_L_mixed : TS :=
  (tSeq (tAsg (tOp rModI (tOp rMulI (tOp rAddI (tOp rAddI (tOp rModI (tVar 0) (tC (.int 1000000007))) (tOp rMulI (tOp rMulI (tC (.int 31)) (tVar 1)) (tVar 1))) (tC (.int 7))) (tC (.int 48271))) (tC (.int 2147483647))) (gName 2))
    (tRet (tOp rModI (tOp rMulI (tVar 2) (tOp rAddI (tC (.int 16807)) (tOp rMulI (tC (.int 7919)) (tVar 1)))) (tC (.int 2147483629)))))


/-- L_truth -/
def rd_L_truth (K : PySem.W.Frag) : TS :=
  (tRet (tAndT K (tCB (rIsi K) (tCons (tVar 0) (tCons (tC (.ty "bool")) tNil))) (tOp rEq (tVar 0) (tVar 1))))


/-- is_whole -/
def rd_is_whole (K : PySem.W.Frag) : TS :=
  (tRet (tAndT K (tCB (rIsi K) (tCons (tVar 0) (tCons (tC (.ty "int")) tNil))) (tNotT K (tCB (rIsi K) (tCons (tVar 0) (tCons (tC (.ty "bool")) tNil))))))


/-- top_of -/
def rd_top_of : TS :=
  (tRet (tOp rSubI (tOp rShlI (tC (.int 1)) (tVar 0)) (tC (.int 1))))


/-- is_word -/
def rd_is_word (K : PySem.W.Frag) : TS :=
  (tRet (tAndT K (tCall (sp_is_whole K) [] E0 (tCons (tVar 0) tNil)) (tChain rLeI rLeI (tC (.int 0)) (tVar 0) (tCall sp_top_of [] E0 (tCons (tVar 1) tNil)))))


/-- is_width -/
def rd_is_width (K : PySem.W.Frag) : TS :=
  (tRet (tAndT K (tCall (sp_is_whole K) [] E0 (tCons (tVar 0) tNil)) (tChain rLeI rLeI (tC (.int 1)) (tVar 0) (tC (.int 64)))))


/-- bits_text -/
def rd_bits_text (K : PySem.W.Frag) : TS :=
  (tRet (tBM K "str" (rJoin K) (tC (.str "")) (tCons (tLc (iRevR (tRg1 (tVar 1))) (gName 2) tYes (tCB cStrInt (tCons (tOp rAndI (tOp rShrI (tVar 0) (tVar 2)) (tC (.int 1))) tNil)) [2]) tNil)))


/-- L_text -/
def rd_L_text : TS :=
  (tSeq (tAsg (tC (.str "")) (gName 2))
    (tSeq (tFor (iRng1 (tCons (tVar 1) tNil)) (gName 3) (tSeq (tAsg (tOp rAddStr (tOp rIxS (tC (.str "01")) (tOp rModI (tVar 0) (tC (.int 2)))) (tVar 2)) (gName 2))
    (tAsg (tOp rDivI (tVar 0) (tC (.int 2))) (gName 0))))
    (tRet (tVar 2))))


/-- L_whole -/
def rd_L_whole (K : PySem.W.Frag) : TS :=
  (tRet (tAndT K (tCB (rIsi K) (tCons (tVar 0) (tCons (tC (.ty "int")) tNil))) (tNotT K (tCB (rIsi K) (tCons (tVar 0) (tCons (tC (.ty "bool")) tNil))))))


/-- joined_words -/
def rd_joined_words : TS :=
  (tRet (tOp rOrI (tOp rShlI (tVar 0) (tVar 2)) (tVar 1)))


/-- word_by_bits -/
def rd_word_by_bits (K : PySem.W.Frag) : TS :=
  (tSeq (tIfS (tOr (tNot (tTru K (tCB (rIsi K) (tCons (tVar 0) (tCons (tC (.ty "str")) tNil))))) (tNot (tTru K (tCall (sp_is_width K) [] E0 (tCons (tCB cLenStr (tCons (tVar 0) tNil)) tNil))))) (tRet (tC .non))
    tNext)
    (tSeq (tAsg (tC (.int 0)) (gName 1))
    (tSeq (tFor (iStr (tVar 0)) (gName 2) (tSeq (tIfS (tTest (tOp (rIn K true) (tVar 2) (tTup (tCons (tC (.str "0")) (tCons (tC (.str "1")) tNil))))) (tRet (tC .non))
    tNext)
    (tAsg (tCall sp_joined_words [] E0 (tCons (tVar 1) (tCons (tCB cIntStr (tCons (tVar 2) tNil)) (tCons (tC (.int 1)) tNil)))) (gName 1))))
    (tRet (tVar 1)))))


/-- L_bent -/
def rd_L_bent (K : PySem.W.Frag) : TS :=
  (tSeq (tAsg (tOp rIxS (tC (.str "01 2a-+.x_")) (tOp rModI (tOp rDivI (tVar 1) (tC (.int 7))) (tC (.int 10)))) (gName 2))
    (tSeq (tAsg (tOp rModI (tOp rDivI (tVar 1) (tC (.int 70))) (tOp rAddI (tCB cLenStr (tCons (tVar 0) tNil)) (tC (.int 1)))) (gName 3))
    (tSeq (tIfS (tTest (tOp rEq (tOp rModI (tVar 1) (tC (.int 7))) (tC (.int 0)))) (tRet (tOp rAddStr (tOp rAddStr (tSl rSlS (tVar 0) tNoPart (tPart (tVar 3))) (tVar 2)) (tSl rSlS (tVar 0) (tPart (tVar 3)) tNoPart)))
    tNext)
    (tSeq (tIfS (tTest (tOp rEq (tOp rModI (tVar 1) (tC (.int 7))) (tC (.int 1)))) (tRet (tOp rAddStr (tSl rSlS (tVar 0) tNoPart (tPart (tVar 3))) (tSl rSlS (tVar 0) (tPart (tOp rAddI (tVar 3) (tC (.int 1)))) tNoPart)))
    tNext)
    (tSeq (tIfS (tTest (tOp rEq (tOp rModI (tVar 1) (tC (.int 7))) (tC (.int 2)))) (tRet (tOp rAddStr (tOp rAddStr (tSl rSlS (tVar 0) tNoPart (tPart (tVar 3))) (tVar 2)) (tSl rSlS (tVar 0) (tPart (tOp rAddI (tVar 3) (tC (.int 1)))) tNoPart)))
    tNext)
    (tSeq (tIfS (tTest (tOp rEq (tOp rModI (tVar 1) (tC (.int 7))) (tC (.int 3)))) (tRet (tOp rMulStr (tVar 0) (tC (.int 2))))
    tNext)
    (tSeq (tIfS (tTest (tOp rEq (tOp rModI (tVar 1) (tC (.int 7))) (tC (.int 4)))) (tRet (tOp rAddStr (tOp rMulStr (tC (.str "0")) (tOp rModI (tOp rDivI (tVar 1) (tC (.int 70))) (tC (.int 4)))) (tVar 0)))
    tNext)
    (tRet (tIf (tTest (tOp rEq (tOp rModI (tVar 1) (tC (.int 7))) (tC (.int 5)))) (tOp (rIxL K) (tLst (tCons (tC (.str "")) (tCons (tOp rMulStr (tC (.str "0")) (tC (.int 64))) (tCons (tOp rMulStr (tC (.str "1")) (tC (.int 65))) (tCons (tOp rMulStr (tC (.str "0")) (tC (.int 65))) (tCons (tC (.str "0b1")) (tCons (tC (.str " 1")) (tCons (tC (.str "1 ")) (tCons (tC (.str "+1")) tNil))))))))) (tOp rModI (tOp rDivI (tVar 1) (tC (.int 7))) (tC (.int 8)))) (tVar 0))))))))))


/-- L_read -/
def rd_L_read (K : PySem.W.Frag) : TS :=
  (tSeq (tIfS (tNot (tTest (tChain rLeI rLeI (tC (.int 1)) (tCB cLenStr (tCons (tVar 0) tNil)) (tC (.int 64))))) (tRet (tC .non))
    tNext)
    (tSeq (tAsg (tC (.int 0)) (gName 1))
    (tSeq (tFor (iStr (tVar 0)) (gName 2) (tSeq (tIfS (tTest (tOp (rIn K true) (tVar 2) (tTup (tCons (tC (.str "0")) (tCons (tC (.str "1")) tNil))))) (tRet (tC .non))
    tNext)
    (tAsg (tOp rAddI (tOp rMulI (tC (.int 2)) (tVar 1)) (tCB cInt1 (tCons (tOp rEq (tVar 2) (tC (.str "1"))) tNil))) (gName 1))))
    (tRet (tVar 1)))))


/-- L_right -/
def rd_L_right (K : PySem.W.Frag) : TS :=
  (tSeq (tAsg (tOp (rIxL K) (tLst (tCons (tC (.int 1)) (tCons (tC (.int 64)) (tCons (tOp rAddI (tC (.int 1)) (tOp rModI (tOp rDivI (tVar 0) (tC (.int 3))) (tC (.int 64)))) tNil)))) (tOp rModI (tVar 0) (tC (.int 3)))) (gName 1))
    (tSeq (tAsg (tCall sp_L_word [] E0 (tCons (tCall sp_L_mixed [] E0 (tCons (tVar 0) (tCons (tC (.int 1)) tNil))) (tCons (tVar 1) tNil))) (gName 2))
    (tSeq (tAsg (tCall sp_L_mixed [] E0 (tCons (tVar 0) (tCons (tC (.int 2)) tNil))) (gName 3))
    (tSeq (tAsg (tC (.int 1)) (gName 4))
    (tSeq (tFor (iRng1 (tCons (tVar 1) tNil)) (gName 5) (tAsg (tOp rMulI (tC (.int 2)) (tVar 4)) (gName 4)))
    (tSeq (tAsg (tOp (rIxL K) (tLst (tCons (tVar 2) (tCons (tVar 4) (tCons (tOp rSubI (tVar 4) (tC (.int 1))) (tCons (tUn rNegI (tC (.int 1))) (tCons (tOp rSubI (tUn rNegI (tC (.int 1))) (tVar 2)) (tCons (tOp rAddI (tVar 4) (tOp rDivI (tVar 3) (tC (.int 6)))) tNil))))))) (tOp rModI (tVar 3) (tC (.int 6)))) (gName 6))
    (Evl.tCut (tIfS (tNot (tTru K (tCall sp_L_truth [] E0 (tCons (tCall (sp_is_word K) [] E0 (tCons (tVar 6) (tCons (tVar 1) tNil))) (tCons (tChain rLeI rLtI (tC (.int 0)) (tVar 6) (tVar 4)) tNil))))) (tRet (tC (.bl false)))
    tNext)
    (tSeq (tAsg (tOp (rIxL K) (tLst (tCons (tC (.int 0)) (tCons (tC (.int 1)) (tCons (tC (.int 64)) (tCons (tC (.int 65)) (tCons (tUn rNegI (tC (.int 1))) (tCons (tOp rModI (tOp rDivI (tVar 3) (tC (.int 12))) (tC (.int 100))) (tCons (tOp rSubI (tC (.int 0)) (tOp rModI (tOp rDivI (tVar 3) (tC (.int 12))) (tC (.int 100)))) (tCons (tVar 3) tNil))))))))) (tOp rModI (tOp rDivI (tVar 3) (tC (.int 6))) (tC (.int 8)))) (gName 7))
    (Evl.tCut (tIfS (tNot (tTru K (tCall sp_L_truth [] E0 (tCons (tCall (sp_is_width K) [] E0 (tCons (tVar 7) tNil)) (tCons (tChain rLeI rLeI (tC (.int 1)) (tVar 7) (tC (.int 64))) tNil))))) (tRet (tC (.bl false)))
    tNext)
    (tSeq (tAsg (tOp (rIxL K) (tLst (tCons (tC (.bl true)) (tCons (tC (.bl false)) (tCons (tC .non) (tCons (tC (.str "1")) (tCons (tLst (tCons (tC (.int 1)) tNil)) (tCons (tTup (tCons (tC (.int 1)) tNil)) (tCons tDNewK (tCons (tC (.str "")) (tCons (tLst tNil) (tCons (tLst (tCons (tC (.str "1")) tNil)) tNil))))))))))) (tOp rModI (tOp rDivI (tVar 3) (tC (.int 48))) (tC (.int 10)))) (gName 8))
    (tSeq (tIfS (tOr (tTest (tOp rNotBl (tCall (sp_is_word K) [] E0 (tCons (tVar 8) (tCons (tVar 1) tNil))) (tC (.bl false)))) (tTest (tOp rNotBl (tCall (sp_is_width K) [] E0 (tCons (tVar 8) tNil)) (tC (.bl false))))) (tRet (tC (.bl false)))
    tNext)
    (tSeq (tAsg (tCall sp_bits_text [] E0 (tCons (tVar 2) (tCons (tVar 1) tNil))) (gName 9))
    (tSeq (tIfS (tOr (tNot (tTru K (tCB (rIsi K) (tCons (tVar 9) (tCons (tC (.ty "str")) tNil))))) (tTest (tOp rNe (tVar 9) (tCall sp_L_text [] E0 (tCons (tVar 2) (tCons (tVar 1) tNil)))))) (tRet (tC (.bl false)))
    tNext)
    (tSeq (tIfS (tOr (tNot (tTru K (tCall (sp_L_whole K) [] E0 (tCons (tCall (sp_word_by_bits K) [] E0 (tCons (tVar 9) tNil)) tNil)))) (tTest (tOp rNe (tCall (sp_word_by_bits K) [] E0 (tCons (tVar 9) tNil)) (tVar 2)))) (tRet (tC (.bl false)))
    tNext)
    (tSeq (tAsg (tCall sp_L_bent [] E0 (tCons (tVar 9) (tCons (tCall sp_L_mixed [] E0 (tCons (tVar 0) (tCons (tC (.int 3)) tNil))) tNil))) (gName 10))
    (tSeq (tAsg (tCall sp_L_read [] E0 (tCons (tVar 10) tNil)) (gName 11))
    (tSeq (tAsg (tCall (sp_word_by_bits K) [] E0 (tCons (tVar 10) tNil)) (gName 12))
    (Evl.tCut (tIfS (tOr (tAnd (tB (tIsN (tVar 11))) (tB (tNotN (tVar 12)))) (tAnd (tB (tNotN (tVar 11))) (tOr (tNot (tTru K (tCall (sp_L_whole K) [] E0 (tCons (tVar 12) tNil)))) (tTest (tOp rNe (tVar 12) (tVar 11)))))) (tRet (tC (.bl false)))
    tNext)
    (tRet (tOrT K (tCB (rIsi K) (tCons (tVar 8) (tCons (tC (.ty "str")) tNil))) (tIsN (tCall (sp_word_by_bits K) [] E0 (tCons (tVar 8) tNil)))))))))))))))))))))))


/-- law -/
def rd_law (K : PySem.W.Frag) : TS :=
  (tSeq (tFor (iList K (tOp rCat (tSl (rSlL K) (tVar 0) tNoPart (tPart (tC (.int 63)))) (tLst (tCons (tC (.int 2)) tNil)))) (gName 1) (tIfS (tNot (tTru K (tCall sp_L_right [] E0 (tCons (tOp rModI (tVar 1) (tC (.int 1000000007))) tNil)))) (tRet (tC (.bl false)))
    tNext))
    (tRet (tC (.bl true))))

section
variable {K : PySem.W.Frag}
theorem pow_cast (n : Nat) : ((2 : Int) ^ n) = ((2 ^ n : Nat) : Int) := by push_cast <;> rfl
theorem vr_top_of (vs H Q E) (h : sp_top_of vs H Q E) : rd_top_of { nx := fun _ H' => Q .non H', rt := Q } (start ["width"] vs) H := by
  obtain ⟨n, rfl, hn, q⟩ := h
  unfold rd_top_of
  walk_at "zz"
  refine z_i (shl_ok (i := 1) (j := n) (n := 1) (by decide) (by omega)) ?_
  walk_at "zz"
  have e : (1 : Int) * 2 ^ (n : Int).toNat - 1 = ((2 ^ n - 1 : Nat) : Int) := by
    rw [Int.toNat_natCast, Int.one_mul, pow_cast]
    have := Nat.two_pow_pos n
    omega
  rw [e]
  exact q.go (Ex.refl H)
theorem vr_L_mixed (vs H Q E) (h : sp_L_mixed vs H Q E) : rd_L_mixed { nx := fun _ H' => Q .non H', rt := Q } (start ["_law_cell", "_law_k", "_law_number"] vs) H := by
  obtain ⟨c, k, rfl, hk, q⟩ := h
  unfold rd_L_mixed
  walk_at "zz"
  exact (q _ (Int.emod_nonneg _ (by decide)) (Int.emod_lt_of_pos _ (by decide))).go (Ex.refl H)
theorem vr_L_word (vs H Q E) (h : sp_L_word vs H Q E) : (rd_L_word K) { nx := fun _ H' => Q .non H', rt := Q } (start ["_law_cell", "_law_width", "_law_top", "_law_many", "_law_bit"] vs) H := by
  obtain ⟨c, w, rfl, ⟨h0, h1, h2, h3⟩, q⟩ := h
  have qi : ∀ x : Int, 0 ≤ x → x < ((2 ^ w : Nat) : Int) → RetV (.int x) H Q := fun x h1 h2 => by
    have := q x.toNat (by omega)
    rwa [Int.toNat_of_nonneg (by omega)] at this
  unfold rd_L_word
  walk_at "zz"
  refine z_i (shl_ok (i := 1) (j := w) (n := 1) (by decide) (by omega)) ?_
  walk_at "zz"
  have hb : 0 ≤ c / 6 % (w : Int) ∧ c / 6 % (w : Int) < w := ⟨Int.emod_nonneg _ (by omega), Int.emod_lt_of_pos _ (by omega)⟩
  generalize c / 6 % (w : Int) = b at hb
  obtain ⟨b, rfl⟩ := Int.eq_ofNat_of_zero_le hb.1
  refine z_i (shl_ok (i := 1) (j := b) (n := 1) (by decide) (by omega)) ?_
  walk_at "zz"
  have e1 : (1 : Int) * 2 ^ (w : Int).toNat = ((2 ^ w : Nat) : Int) := by rw [Int.toNat_natCast, Int.one_mul, pow_cast]
  have e2 : (1 : Int) * 2 ^ (b : Int).toNat = ((2 ^ b : Nat) : Int) := by rw [Int.toNat_natCast, Int.one_mul, pow_cast]
  have p1 := Nat.two_pow_pos w
  have p2 := Nat.two_pow_pos b
  have p3 : 2 ^ b < 2 ^ w := Nat.pow_lt_pow_right (by decide) (by omega)
  rw [e1]
  refine z_i (show (0 : Int) < ((2 ^ w : Nat) : Int) - 1 + 1 by omega) ?_
  walk_at "zz"
  rw [e2]
  refine ⟨szl (by simp), fun p hp => ?_⟩
  walk_at "zz"
  have m : ∀ z : Int, 0 ≤ z % (((2 ^ w : Nat) : Int) - 1 + 1) ∧ z % (((2 ^ w : Nat) : Int) - 1 + 1) < ((2 ^ w : Nat) : Int) := fun z => ⟨Int.emod_nonneg _ (by omega), by
    have := Int.emod_lt_of_pos z (show (0 : Int) < ((2 ^ w : Nat) : Int) - 1 + 1 by omega)
    omega⟩
  have p4 : 2 ≤ 2 ^ w := Nat.le_trans (by decide : 2 ≤ 2 ^ 1) (Nat.pow_le_pow_right (by decide) h2)
  have i6 : c % 6 = 0 ∨ c % 6 = 1 ∨ c % 6 = 2 ∨ c % 6 = 3 ∨ c % 6 = 4 ∨ c % 6 = 5 := by omega
  rcases i6 with e | e | e | e | e | e <;> rw [e]
  · exact z_ixL (sq_of upd_same) rfl ((qi _ (by omega) (by omega)).go (Ex.new hp))
  · exact z_ixL (sq_of upd_same) rfl ((qi _ (by omega) (by omega)).go (Ex.new hp))
  · exact z_ixL (sq_of upd_same) rfl ((qi _ (by omega) (by omega)).go (Ex.new hp))
  · exact z_ixL (sq_of upd_same) rfl ((qi _ (by omega) (by omega)).go (Ex.new hp))
  · exact z_ixL (sq_of upd_same) rfl ((qi _ (by omega) (by omega)).go (Ex.new hp))
  · exact z_ixL (sq_of upd_same) rfl ((qi _ (m _).1 (m _).2).go (Ex.new hp))
theorem vr_joined_words (vs H Q E) (h : sp_joined_words vs H Q E) : rd_joined_words { nx := fun _ H' => Q .non H', rt := Q } (start ["high", "low", "many"] vs) H := by
  obtain ⟨h, l, n, rfl, hn, hl, hh, q⟩ := h
  unfold rd_joined_words
  walk_at "zz"
  refine z_i (shl_ok (i := (h : Int)) (j := n) (n := 64) (by rw [Int.natAbs_natCast]; exact hh) (by omega)) ?_
  walk_at "zz"
  rw [Int.toNat_natCast, or_low (Int.natCast_nonneg h) (Int.natCast_nonneg l) (by rw [pow_cast]; omega), pow_cast, ← Int.natCast_mul, ← Int.natCast_add]
  rw [show h * 2 ^ n + l = l + 2 ^ n * h by rw [Nat.mul_comm, Nat.add_comm]]
  exact q.go (Ex.refl H)
theorem odd_kit {H : Hp} {v : V} (h : Odd H v) : ∃ T, TyX K H v (.type T) ∧ ((T = "bool" ∧ ∃ b, v = .bl b) ∨ (T ∈ (["NoneType", "str", "list", "tuple", "dict"] : List String) ∧ (T = "str" ↔ isStr v = true))) := by
  rcases h with ⟨b, rfl⟩ | rfl | ⟨s, rfl⟩ | ⟨a, rfl, ⟨xs, h⟩ | ⟨xs, h⟩ | ⟨xs, h⟩⟩
  · exact ⟨"bool", .base (.bl b), .inl ⟨rfl, b, rfl⟩⟩
  · exact ⟨"NoneType", .base .non, .inr ⟨by decide, by decide⟩⟩
  · exact ⟨"str", .base (.str s), .inr ⟨by decide, by simp [isStr]⟩⟩
  · exact ⟨"list", .base (.lst h), .inr ⟨by decide, by simp [isStr]⟩⟩
  · exact ⟨"tuple", .base (.tup h), .inr ⟨by decide, by simp [isStr]⟩⟩
  · exact ⟨"dict", .base (.dK h), .inr ⟨by decide, by simp [isStr]⟩⟩
theorem kit5 {T U : String} (h : T ∈ (["NoneType", "str", "list", "tuple", "dict"] : List String)) (hu : U = "int" ∨ U = "bool") : PySem.W.kitOne K (.type T) (.type U) = some false := by
  simp only [List.mem_cons, List.not_mem_nil, or_false] at h
  rcases h with rfl | rfl | rfl | rfl | rfl <;> rcases hu with rfl | rfl <;> exact kit_ty (by decide +kernel)
theorem whole_rd {σ : L2.St} {v : V} {H : Hp} {Q : VK} {b : Bool} (hs : σ[0]? = some (some v)) (hv : (∃ i : Int, v = .int i ∧ b = true) ∨ (Odd H v ∧ b = false)) (q : RetV (.bl b) H Q) :
    (tAndT K (tCB (rIsi K) (tCons (tVar 0) (tCons (tC (.ty "int")) tNil))) (tNotT K (tCB (rIsi K) (tCons (tVar 0) (tCons (tC (.ty "bool")) tNil))))) σ H Q := by
  refine z_andT (z_cb (z_cons (z_var hs (z_cons (z_c (z_nil ?_))))))
  rcases hv with ⟨i, rfl, rfl⟩ | ⟨ho, rfl⟩
  · refine z_isi (T := "int") (U := "int") (b := true) (.base (.int i)) (kit_ty (by decide +kernel)) (z_trub (ite_t ?_))
    refine z_notT (z_cb (z_cons (z_var hs (z_cons (z_c (z_nil ?_))))))
    exact z_isi (T := "int") (U := "bool") (b := false) (.base (.int i)) (kit_ty (by decide +kernel)) (z_trub (q.go (Ex.refl H)))
  · obtain ⟨T, ty, ⟨rfl, b, rfl⟩ | ⟨hT, _⟩⟩ := odd_kit (K := K) ho
    · refine z_isi (T := "bool") (U := "int") (b := true) ty (kit_ty (by decide +kernel)) (z_trub (ite_t ?_))
      refine z_notT (z_cb (z_cons (z_var hs (z_cons (z_c (z_nil ?_))))))
      exact z_isi (T := "bool") (U := "bool") (b := true) ty (kit_ty (by decide +kernel)) (z_trub (q.go (Ex.refl H)))
    · exact z_isi (T := T) (U := "int") (b := false) ty (kit5 hT (.inl rfl)) (z_trub (ite_f (q.go (Ex.refl H))))
theorem vr_L_whole (vs H Q E) (h : sp_L_whole K vs H Q E) : (rd_L_whole K) { nx := fun _ H' => Q .non H', rt := Q } (start ["_law_found"] vs) H := by
  obtain ⟨v, b, rfl, hv, q⟩ := h
  unfold rd_L_whole
  refine z_ret ?_
  exact whole_rd rfl hv q
theorem vr_is_whole (vs H Q E) (h : sp_is_whole K vs H Q E) : (rd_is_whole K) { nx := fun _ H' => Q .non H', rt := Q } (start ["thing"] vs) H := by
  obtain ⟨v, b, rfl, hv, q⟩ := h
  unfold rd_is_whole
  refine z_ret ?_
  exact whole_rd rfl hv q
theorem vr_is_width (vs H Q E) (h : sp_is_width K vs H Q E) : (rd_is_width K) { nx := fun _ H' => Q .non H', rt := Q } (start ["thing"] vs) H := by
  obtain ⟨v, b, rfl, hv, q⟩ := h
  unfold rd_is_width
  walk_at "zz"
  rcases hv with ⟨i, rfl, rfl⟩ | ⟨ho, rfl⟩
  · refine ⟨_, true, rfl, .inl ⟨i, rfl, rfl⟩, fun H2 e2 => ?_⟩
    walk_at "zz"
    by_cases h1 : 1 ≤ i
    · rw [decide_eq_true h1]
      walk_at "zz"
      by_cases h2 : i ≤ 64
      · rw [decide_eq_true h2]
        rw [decide_eq_true ⟨h1, h2⟩] at q
        exact q.go e2
      · rw [decide_eq_false h2]
        rw [decide_eq_false (fun h => h2 h.2)] at q
        exact q.go e2
    · rw [decide_eq_false h1]
      walk_at "zz"
      rw [decide_eq_false (fun h => h1 h.1)] at q
      exact q.go e2
  · refine ⟨_, false, rfl, .inr ⟨ho, rfl⟩, fun H2 e2 => ?_⟩
    walk_at "zz"
    exact q.go e2
theorem vr_is_word (vs H Q E) (h : sp_is_word K vs H Q E) : (rd_is_word K) { nx := fun _ H' => Q .non H', rt := Q } (start ["thing", "width"] vs) H := by
  obtain ⟨v, n, b, rfl, hn, hv, q⟩ := h
  unfold rd_is_word
  walk_at "zz"
  rcases hv with ⟨i, rfl, rfl⟩ | ⟨ho, rfl⟩
  · refine ⟨_, true, rfl, .inl ⟨i, rfl, rfl⟩, fun H2 e2 => ?_⟩
    have p2 := Nat.two_pow_pos n
    walk_at "zz"
    by_cases h1 : 0 ≤ i
    · rw [decide_eq_true h1]
      walk_at "zz"
      refine ⟨n, rfl, hn, fun H3 e3 => ?_⟩
      walk_at "zz"
      by_cases h2 : i < ((2 ^ n : Nat) : Int)
      · rw [decide_eq_true (show i ≤ ((2 ^ n - 1 : Nat) : Int) by omega)]
        rw [decide_eq_true ⟨h1, h2⟩] at q
        exact q.go (e2.trans e3)
      · rw [decide_eq_false (show ¬ i ≤ ((2 ^ n - 1 : Nat) : Int) by omega)]
        rw [decide_eq_false (fun h => h2 h.2)] at q
        exact q.go (e2.trans e3)
    · rw [decide_eq_false h1]
      walk_at "zz"
      rw [decide_eq_false (fun h => h1 h.1)] at q
      exact q.go e2
  · refine ⟨_, false, rfl, .inr ⟨ho, rfl⟩, fun H2 e2 => ?_⟩
    walk_at "zz"
    exact q.go e2
theorem vr_L_truth (vs H Q E) (h : sp_L_truth vs H Q E) : (rd_L_truth K) { nx := fun _ H' => Q .non H', rt := Q } (start ["_law_found", "_law_due"] vs) H := by
  obtain ⟨a, b, rfl, q⟩ := h
  unfold rd_L_truth
  walk_at "zz"
  refine z_isi (T := "bool") (U := "bool") (b := true) (.base (.bl a)) (kit_ty (by decide +kernel)) ?_
  walk_at "zz"
  have e : decide (V.bl a = V.bl b) = decide (a = b) := by
    by_cases h : a = b
    · rw [decide_eq_true h, h, decide_eq_true rfl]
    · rw [decide_eq_false h, decide_eq_false fun z => h (by injection z)]
  rw [e]
  exact q.go (Ex.refl H)
theorem str01 : (Str.ofString "01" : Str) = S [48, 49] := by decide +kernel
theorem sbits_succ (n x i : Nat) : S [48 + x / 2 ^ i % 2] ++ S ((bitsN i x).reverse.map fun b => 48 + b) = S ((bitsN (i + 1) x).reverse.map fun b => 48 + b) := by
  rw [S_app, bits_top, List.reverse_append] <;> rfl
theorem vr_L_text (vs H Q E) (h : sp_L_text vs H Q E) : rd_L_text { nx := fun _ H' => Q .non H', rt := Q } (start ["_law_word_here", "_law_width", "_law_found", "_law_k"] vs) H := by
  obtain ⟨x, n, rfl, hn, q⟩ := h
  unfold rd_L_text
  walk_at "zz"
  refine z_FR1 (by omega) (fun i σ' H' => ∃ y, σ' = [some (.int ((x / 2 ^ i : Nat) : Int)), some (.int (n : Int)), some (.str (S ((bitsN i x).reverse.map fun b => 48 + b))), y] ∧ Ex H H') ?_ ?_ ?_
  · refine ⟨none, ?_, Ex.refl H⟩
    rw [Nat.pow_zero, Nat.div_one] <;> rfl
  · rintro i σ' H' hi ⟨y, rfl, e⟩
    walk_at "zz"
    have m2 := Nat.mod_two_eq_zero_or_one (x / 2 ^ i)
    have ei : ((x / 2 ^ i : Nat) : Int) % 2 = ((x / 2 ^ i % 2 : Nat) : Int) := by omega
    refine z_ixS (c := 48 + x / 2 ^ i % 2) (szl (by decide +kernel)) ?_ ?_
    · rw [str01, S_tl, ei]
      refine atI_nat ?_
      rcases m2 with h | h <;> rw [h] <;> rfl
    walk_at "zz"
    refine z_addS (s := ⟨#[48 + x / 2 ^ i % 2]⟩) (z := S ((bitsN i x).reverse.map fun b => 48 + b)) (szl (by show 1 + (S _).length ≤ 1000; rw [S_len, List.length_map, List.length_reverse, bits_len]; omega)) ?_
    walk_at "zz"
    refine ⟨some (.int (i : Int)), ?_, e⟩
    show [_, _, some (V.str (S [48 + x / 2 ^ i % 2] ++ S ((bitsN i x).reverse.map fun b => 48 + b))), _] = _
    rw [sbits_succ n, Nat.pow_succ, ← Nat.div_div_eq_div_mul] <;> rfl
  · rintro σ' H' ⟨y, rfl, e⟩
    walk_at "zz"
    rw [Int.toNat_natCast]
    exact q.go e
theorem in01 (c : Nat) : inV (.str ⟨#[c]⟩) [.str "0", .str "1"] = (c == 48 || c == 49) := by
  have e0 : (Str.ofString "0" : Str) = S [48] := by decide +kernel
  have e1 : (Str.ofString "1" : Str) = S [49] := by decide +kernel
  show ((Str.ofString "0" == S [c]) || ((Str.ofString "1" == S [c]) || false)) = _
  rw [e0, e1]
  have f : ∀ a : Nat, (S [a] == S [c]) = (c == a) := fun a => by
    by_cases h : a = c
    · rw [h, beq_self_eq_true, beq_self_eq_true]
    · rw [beq_eq_false_iff_ne.mpr fun z => h (by have := S_inj z; injection this), beq_eq_false_iff_ne.mpr (Ne.symm h)]
  rw [f, f, Bool.or_false]
theorem num2_step {l : List Nat} {i c : Nat} (h : l[i]? = some c) : num2 (l.take (i + 1)) = 2 * num2 (l.take i) + (c - 48) := by
  unfold num2
  rw [List.take_add_one, h]
  show List.foldl _ _ (l.take i ++ [c]) = _
  rw [List.foldl_append] <;> rfl
theorem num2_lt : ∀ (l : List Nat) (a k : Nat), a < 2 ^ k → bit01 l = true → l.foldl (fun a c => 2 * a + (c - 48)) a < 2 ^ (k + l.length)
  | [], a, k, h, _ => h
  | c :: l, a, k, h, hb => by
    have hb2 := Bool.and_eq_true_iff.mp (show ((c == 48 || c == 49) && bit01 l) = true from hb)
    have hc : c - 48 ≤ 1 := by
      rcases Bool.or_eq_true_iff.mp hb2.1 with h | h
      · have := eq_of_beq h
        omega
      · have := eq_of_beq h
        omega
    have := num2_lt l (2 * a + (c - 48)) (k + 1) (by rw [Nat.pow_succ]; omega) hb2.2
    rw [List.foldl_cons, List.length_cons, show k + (l.length + 1) = k + 1 + l.length by omega]
    exact this
theorem bit01_take {l : List Nat} (h : bit01 l = true) (i : Nat) : bit01 (l.take i) = true := List.all_eq_true.mpr fun c hc => List.all_eq_true.mp h c (List.mem_of_mem_take hc)
theorem bit01_step {l : List Nat} {i c : Nat} (h : l[i]? = some c) : bit01 (l.take (i + 1)) = (bit01 (l.take i) && (c == 48 || c == 49)) := by
  unfold bit01
  rw [List.take_add_one, h]
  show List.all (l.take i ++ [c]) _ = _
  rw [List.all_append]
  show (_ && ((c == 48 || c == 49) && true)) = _
  rw [Bool.and_true]
theorem bit01_not {l : List Nat} {i c : Nat} (h : l[i]? = some c) (hc : (c == 48 || c == 49) = false) : bit01 l = false := by
  by_cases hb : bit01 l = true
  · have := List.all_eq_true.mp hb c (List.mem_of_getElem? h)
    rw [hc] at this
    cases this
  · exact Bool.eq_false_iff.mpr hb
theorem rdT_bad {t : Str} (h : ¬ (1 ≤ t.length ∧ t.length ≤ 64)) : rdT t = .non := if_neg fun z => h ⟨z.1, z.2.1⟩
theorem vr_L_read (vs H Q E) (h : sp_L_read vs H Q E) : (rd_L_read K) { nx := fun _ H' => Q .non H', rt := Q } (start ["_law_text_here", "_law_found", "_law_sign"] vs) H := by
  obtain ⟨t, rfl, hz, q⟩ := h
  unfold rd_L_read
  walk_at "zz"
  refine z_lenS (szl hz) ?_
  walk_at "zz"
  by_cases h1 : 1 ≤ t.length
  rotate_left
  · rw [decide_eq_false (show ¬ (1 : Int) ≤ (t.length : Int) by omega)]
    walk_at "zz"
    refine ite_b (fun _ => ?_) (fun h => absurd h (by decide))
    walk_at "zz"
    rw [rdT_bad fun z => h1 z.1] at q
    exact q.go (Ex.refl H)
  rw [decide_eq_true (show (1 : Int) ≤ (t.length : Int) by omega)]
  walk_at "zz"
  by_cases h2 : t.length ≤ 64
  rotate_left
  · rw [decide_eq_false (show ¬ (t.length : Int) ≤ 64 by omega)]
    walk_at "zz"
    refine ite_b (fun _ => ?_) (fun h => absurd h (by decide))
    walk_at "zz"
    rw [rdT_bad fun z => h2 z.2] at q
    exact q.go (Ex.refl H)
  rw [decide_eq_true (show (t.length : Int) ≤ 64 by omega)]
  walk_at "zz"
  refine ite_b (fun h => absurd h (by decide)) (fun _ => ?_)
  walk_at "zz"
  refine z_FS (fun i σ' H' => ∃ y, σ' = [some (.str t), some (.int (num2 (t.cps.toList.take i) : Nat)), y] ∧ Ex H H' ∧ bit01 (t.cps.toList.take i) = true) ?_ ?_ ?_
  · exact ⟨none, rfl, Ex.refl H, rfl⟩
  · rintro i c σ' H' hi hc ⟨y, rfl, e, hb⟩
    have hc' : t.cps.toList[i]? = some c := by simpa using hc
    walk_at "zz"
    refine ⟨szl (by simp), fun p hp => ?_⟩
    refine z_inT (st_of upd_same) rfl rfl ?_
    rw [in01]
    cases h01 : (c == 48 || c == 49) with
    | false =>
      walk_at "zz"
      refine ite_b (fun _ => ?_) (fun h => absurd h (by decide))
      walk_at "zz"
      rw [rdT, if_neg (fun z => by rw [bit01_not hc' h01] at z; exact Bool.noConfusion z.2.2)] at q
      exact q.go (e.trans (Ex.new hp))
    | true =>
      walk_at "zz"
      refine ite_b (fun h => absurd h (by decide)) (fun _ => ?_)
      walk_at "zz"
      refine ⟨some (.str ⟨#[c]⟩), ?_, e.trans (Ex.new hp), by rw [bit01_step hc', hb, h01] <;> rfl⟩
      have ec : (if decide (V.str ⟨#[c]⟩ = V.str (Str.ofString "1")) = true then (1 : Int) else 0) = ((c - 48 : Nat) : Int) := by
        have e1 : (Str.ofString "1" : Str) = S [49] := by decide +kernel
        rw [e1]
        rcases Bool.or_eq_true_iff.mp h01 with h | h
        · rw [eq_of_beq h]
          rfl
        · rw [eq_of_beq h]
          rfl
      rw [ec, num2_step hc', Int.natCast_add, Int.natCast_mul] <;> rfl
  · rintro σ' H' ⟨y, rfl, e, hb⟩
    walk_at "zz"
    have et : t.cps.toList.take t.cps.size = t.cps.toList := List.take_of_length_le (by simp)
    rw [et] at hb ⊢
    rw [rdT, if_pos ⟨h1, h2, hb⟩] at q
    exact q.go e
theorem kitS {T : String} (h : T ∈ (["NoneType", "str", "list", "tuple", "dict"] : List String)) (hn : T ≠ "str") : PySem.W.kitOne K (.type T) (.type "str") = some false := by
  simp only [List.mem_cons, List.not_mem_nil, or_false] at h
  rcases h with rfl | rfl | rfl | rfl | rfl
  · exact kit_ty (by decide +kernel)
  · exact absurd rfl hn
  · exact kit_ty (by decide +kernel)
  · exact kit_ty (by decide +kernel)
  · exact kit_ty (by decide +kernel)
theorem band_nat (x y : Nat) : Builtin.bitAnd (x : Int) (y : Int) = ((x &&& y : Nat) : Int) := rfl
theorem vr_word_by_bits (vs H Q E) (h : sp_word_by_bits K vs H Q E) : (rd_word_by_bits K) { nx := fun _ H' => Q .non H', rt := Q } (start ["text", "word", "sign"] vs) H := by
  obtain ⟨v, r, rfl, hv, q⟩ := h
  unfold rd_word_by_bits
  walk_at "zz"
  rcases hv with ⟨t, rfl, hz, rfl⟩ | ⟨ho, hs, rfl⟩
  rotate_left
  · obtain ⟨T, ty, ⟨rfl, b, rfl⟩ | ⟨hT, hTs⟩⟩ := odd_kit (K := K) ho
    · refine z_isi (T := "bool") (U := "str") (b := false) ty (kit_ty (by decide +kernel)) ?_
      walk_at "zz"
      refine ite_b (fun _ => ?_) (fun h => absurd h (by decide))
      walk_at "zz"
      exact q.go (Ex.refl H)
    · refine z_isi (T := T) (U := "str") (b := false) ty (kitS hT fun z => by rw [hTs.mp z] at hs; cases hs) ?_
      walk_at "zz"
      refine ite_b (fun _ => ?_) (fun h => absurd h (by decide))
      walk_at "zz"
      exact q.go (Ex.refl H)
  refine z_isi (T := "str") (U := "str") (b := true) (.base (.str t)) (kit_ty (by decide +kernel)) ?_
  walk_at "zz"
  refine ite_b (fun h => absurd h (by decide)) (fun _ => ?_)
  walk_at "zz"
  refine z_lenS (szl hz) ?_
  walk_at "zz"
  refine ⟨_, _, rfl, .inl ⟨_, rfl, rfl⟩, fun H1 e1 => ?_⟩
  by_cases hlen : 1 ≤ t.length ∧ t.length ≤ 64
  rotate_left
  · rw [decide_eq_false (show ¬ ((1 : Int) ≤ (t.length : Int) ∧ (t.length : Int) ≤ 64) by omega)]
    walk_at "zz"
    refine ite_b (fun _ => ?_) (fun h => absurd h (by decide))
    walk_at "zz"
    rw [rdT_bad hlen] at q
    exact q.go e1
  rw [decide_eq_true (show ((1 : Int) ≤ (t.length : Int) ∧ (t.length : Int) ≤ 64) by omega)]
  obtain ⟨h1, h2⟩ := hlen
  walk_at "zz"
  refine ite_b (fun h => absurd h (by decide)) (fun _ => ?_)
  walk_at "zz"
  refine z_FS (fun i σ' H' => ∃ y, σ' = [some (.str t), some (.int (num2 (t.cps.toList.take i) : Nat)), y] ∧ Ex H H' ∧ bit01 (t.cps.toList.take i) = true) ?_ ?_ ?_
  · exact ⟨none, rfl, e1, rfl⟩
  · rintro i c σ' H' hi hc ⟨y, rfl, e, hb⟩
    have hc' : t.cps.toList[i]? = some c := by simpa using hc
    have hi64 : i < 64 := Nat.lt_of_lt_of_le hi h2
    walk_at "zz"
    refine ⟨szl (by simp), fun p hp => ?_⟩
    refine z_inT (st_of upd_same) rfl rfl ?_
    rw [in01]
    cases h01 : (c == 48 || c == 49) with
    | false =>
      walk_at "zz"
      refine ite_b (fun _ => ?_) (fun h => absurd h (by decide))
      walk_at "zz"
      rw [rdT, if_neg (fun z => by rw [bit01_not hc' h01] at z; exact Bool.noConfusion z.2.2)] at q
      exact q.go (e.trans (Ex.new hp))
    | true =>
      walk_at "zz"
      refine ite_b (fun h => absurd h (by decide)) (fun _ => ?_)
      walk_at "zz"
      have lt := num2_lt (t.cps.toList.take i) 0 0 (by decide) hb
      have lt2 : num2 (t.cps.toList.take i) < 2 ^ 64 := Nat.lt_of_lt_of_le lt (Nat.pow_le_pow_right (by decide) (by rw [List.length_take]; omega))
      have fin : ∀ k : Nat, k < 2 → c - 48 = k → PySem.intText? (⟨#[c]⟩ : Str) = some (k : Int) →
          cIntStr [.str ⟨#[c]⟩] (upd H' p (HO.tup [V.str (Str.ofString "0"), V.str (Str.ofString "1")])) (fun x1 H1 => tCons (tC (.int 1)) tNil [some (.str t), some (.int (num2 (t.cps.toList.take i) : Nat)), some (.str ⟨#[c]⟩)] H1 fun xs H2 => sp_joined_words ([.int (num2 (t.cps.toList.take i) : Nat), x1] ++ (xs ++ [])) H2 (fun x H1 => ∃ y, ([some (.str t), some x, some (.str ⟨#[c]⟩)] : L2.St) = [some (.str t), some (.int (num2 (t.cps.toList.take (i + 1)) : Nat)), y] ∧ Ex H H1 ∧ bit01 (t.cps.toList.take (i + 1)) = true) E0) := fun k hk ek hx => by
        refine ⟨_, _, rfl, hx, by show 1 ≤ 640; decide, ?_⟩
        walk_at "zz"
        refine ⟨num2 (t.cps.toList.take i), k, 1, rfl, by decide, hk, lt2, fun H3 e3 => ?_⟩
        refine ⟨some (.str ⟨#[c]⟩), ?_, (e.trans (Ex.new hp)).trans e3, by rw [bit01_step hc', hb, h01] <;> rfl⟩
        rw [num2_step hc', ek]
        have : k + 2 ^ 1 * num2 (t.cps.toList.take i) = 2 * num2 (t.cps.toList.take i) + k := by omega
        rw [this]
      rcases Bool.or_eq_true_iff.mp h01 with h | h
      · have hc0 := eq_of_beq h
        subst hc0
        exact fin 0 (by decide) rfl (by decide +kernel)
      · have hc0 := eq_of_beq h
        subst hc0
        exact fin 1 (by decide) rfl (by decide +kernel)
  · rintro σ' H' ⟨y, rfl, e, hb⟩
    walk_at "zz"
    have et : t.cps.toList.take t.cps.size = t.cps.toList := List.take_of_length_le (by simp)
    rw [et] at hb ⊢
    rw [rdT, if_pos ⟨h1, h2, hb⟩] at q
    exact q.go e
theorem given_true (n : Nat) (v : Nat → V) : Evl.given n (fun _ => true) v = (List.range n).map v := by
  unfold Evl.given
  rw [List.filter_eq_self.mpr (fun _ _ => rfl)]
theorem bits_range (n x : Nat) : (List.range n).map (fun i => x / 2 ^ i % 2) = bitsN n x := by
  induction n with
  | zero => rfl
  | succ n ih => rw [List.range_succ, List.map_append, ih, bits_top] <;> rfl
theorem rev_range (n : Nat) (f : Nat → Nat) : (List.range n).map (fun i => f (n - 1 - i)) = ((List.range n).map f).reverse := by
  refine List.ext_getElem (by simp) fun i h1 h2 => ?_
  simp at h1
  simp [List.getElem_reverse]
theorem vr_bits_text (vs H Q E) (h : sp_bits_text vs H Q E) : (rd_bits_text K) { nx := fun _ H' => Q .non H', rt := Q } (start ["word", "width", "at"] vs) H := by
  obtain ⟨x, n, rfl, hn, q⟩ := h
  unfold rd_bits_text
  walk_at "zz"
  refine z_CRv (m := n) (by omega) (fun _ => true) (fun i => .str (S [48 + x / 2 ^ (n - 1 - i) % 2])) (fun _ => rfl) (fun i H' hi e => fun H2 e2 Q' q' => q' _ (Ex.refl _)) (fun i H' hi e _ => fun H2 e2 Q' q' => ?_) (fun p H1 hp e1 h1 => ?_)
  · walk_at "zz"
    refine z_i (show (0 : Int) ≤ ((n - 1 - i : Nat) : Int) by omega) ?_
    walk_at "zz"
    have em : Builtin.bitAnd ((x : Int) / 2 ^ ((n - 1 - i : Nat) : Int).toNat) 1 = ((x / 2 ^ (n - 1 - i) % 2 : Nat) : Int) := by
      rw [Int.toNat_natCast, pow_cast, ← Int.natCast_ediv, show (1 : Int) = ((1 : Nat) : Int) from rfl, band_nat, Nat.and_one_is_mod]
    rw [em]
    rcases Nat.mod_two_eq_zero_or_one (x / 2 ^ (n - 1 - i)) with h | h
    · rw [h] at q' ⊢
      refine z_strI (by decide) ?_
      have e0 : (toString ((0 : Nat) : Int) : Str) = S [48 + 0] := by decide +kernel
      rw [e0]
      exact q' _ (Ex.refl _)
    · rw [h] at q' ⊢
      refine z_strI (by decide) ?_
      have e0 : (toString ((1 : Nat) : Int) : Str) = S [48 + 1] := by decide +kernel
      rw [e0]
      exact q' _ (Ex.refl _)
  walk_at "zz"
  rw [given_true] at h1
  have ew : (List.range n).map (fun i => V.str (S [48 + x / 2 ^ (n - 1 - i) % 2])) = (((bitsN n x).reverse.map fun b => [48 + b]).map S).map V.str := by
    rw [← bits_range, ← rev_range, List.map_map, List.map_map, List.map_map] <;> rfl
  rw [ew] at h1
  refine ⟨_, p, ((bitsN n x).reverse.map fun b => [48 + b]).map S, rfl, rfl, .inl (sq_of h1), ?_, ?_⟩
  · have : ∀ l : List Nat, (((l.map fun b => [48 + b]).map S).map (·.length)).sum = l.length := fun l => by
      induction l with
      | nil => rfl
      | cons a l ih => rw [List.map_cons, List.map_cons, List.map_cons, List.sum_cons, ih, S_len, List.length_cons] <;> simp <;> omega
    rw [this, List.length_map, List.length_map, List.length_reverse, bits_len]
    have : (Str.ofString "" : Str).length = 0 := by decide +kernel
    rw [this]
    omega
  · have e0 : (Str.ofString "" : Str) = S [] := by decide +kernel
    rw [e0, join_S]
    have : ∀ l : List Nat, (l.map fun b => [48 + b]).flatten = l.map fun b => 48 + b := fun l => by
      induction l with
      | nil => rfl
      | cons a l ih => rw [List.map_cons, List.flatten_cons, ih] <;> rfl
    rw [this]
    exact q.go e1
theorem cutS1000 {s : Str} {lo hi : Option Int} (h : s.length ≤ 1000) : (cutS s lo hi).length ≤ sizeLine := szl (Nat.le_trans (cutS_le s lo hi) h)
theorem vr_L_bent (vs H Q E) (h : sp_L_bent vs H Q E) : (rd_L_bent K) { nx := fun _ H' => Q .non H', rt := Q } (start ["_law_text_here", "_law_number", "_law_sign", "_law_at"] vs) H := by
  obtain ⟨t, m, rfl, hz, hm, q⟩ := h
  unfold rd_L_bent
  have hz' : t.length ≤ sizeLine := szl (by omega)
  walk_at "zz"
  obtain ⟨c, hc⟩ : ∃ c, atI (Str.ofString "01 2a-+.x_").cps.toList (m / 7 % 10) = some c := by
    have e : (Str.ofString "01 2a-+.x_" : Str) = S [48, 49, 32, 50, 97, 45, 43, 46, 120, 95] := by decide +kernel
    rw [e, S_tl]
    have c10 : m / 7 % 10 = 0 ∨ m / 7 % 10 = 1 ∨ m / 7 % 10 = 2 ∨ m / 7 % 10 = 3 ∨ m / 7 % 10 = 4 ∨ m / 7 % 10 = 5 ∨ m / 7 % 10 = 6 ∨ m / 7 % 10 = 7 ∨ m / 7 % 10 = 8 ∨ m / 7 % 10 = 9 := by omega
    rcases c10 with h | h | h | h | h | h | h | h | h | h <;> rw [h] <;> exact ⟨_, rfl⟩
  refine z_ixS (c := c) (szl (by decide +kernel)) hc ?_
  walk_at "zz"
  refine z_lenS hz' ?_
  walk_at "zz"
  have l1 : (⟨#[c]⟩ : Str).length = 1 := rfl
  have cl : ∀ lo hi, (cutS t lo hi).length ≤ 64 := fun lo hi => Nat.le_trans (cutS_le t lo hi) hz
  refine ite_b (fun _ => ?_) (fun _ => ?_)
  · walk_at "zz"
    refine z_slS hz' ?_
    walk_at "zz"
    refine z_addS (szl (by have := cl none (some (m / 70 % ((t.length : Int) + 1))); omega)) ?_
    walk_at "zz"
    refine z_slS hz' ?_
    have h1 := cl none (some (m / 70 % ((t.length : Int) + 1)))
    have h2 := cl (some (m / 70 % ((t.length : Int) + 1))) none
    refine z_addS (szl (by rw [txt_app_len]; omega)) ?_
    exact (q _ (by rw [txt_app_len, txt_app_len]; omega)).go (Ex.refl H)
  walk_at "zz"
  refine ite_b (fun _ => ?_) (fun _ => ?_)
  · walk_at "zz"
    refine z_slS hz' ?_
    walk_at "zz"
    refine z_slS hz' ?_
    have h1 := cl none (some (m / 70 % ((t.length : Int) + 1)))
    have h2 := cl (some (m / 70 % ((t.length : Int) + 1) + 1)) none
    refine z_addS (szl (by omega)) ?_
    exact (q _ (by rw [txt_app_len]; omega)).go (Ex.refl H)
  walk_at "zz"
  refine ite_b (fun _ => ?_) (fun _ => ?_)
  · walk_at "zz"
    refine z_slS hz' ?_
    walk_at "zz"
    refine z_addS (szl (by have := cl none (some (m / 70 % ((t.length : Int) + 1))); omega)) ?_
    walk_at "zz"
    refine z_slS hz' ?_
    have h1 := cl none (some (m / 70 % ((t.length : Int) + 1)))
    have h2 := cl (some (m / 70 % ((t.length : Int) + 1) + 1)) none
    refine z_addS (szl (by rw [txt_app_len]; omega)) ?_
    exact (q _ (by rw [txt_app_len, txt_app_len]; omega)).go (Ex.refl H)
  walk_at "zz"
  refine ite_b (fun _ => ?_) (fun _ => ?_)
  · walk_at "zz"
    refine z_mulS (mul_ok t 2 (by decide) (by decide) (by omega)) ?_
    have h1 := mul_len t 2 (by decide)
    exact (q _ (by have : t.length * (2 : Int).toNat = t.length * 2 := rfl; omega)).go (Ex.refl H)
  walk_at "zz"
  refine ite_b (fun _ => ?_) (fun _ => ?_)
  · walk_at "zz"
    have l0 : (Str.ofString "0").length = 1 := by decide +kernel
    have b4 : 0 ≤ m / 70 % 4 ∧ m / 70 % 4 < 4 := ⟨Int.emod_nonneg _ (by decide), Int.emod_lt_of_pos _ (by decide)⟩
    refine z_mulS (mul_ok _ _ b4.1 (by omega) (by omega)) ?_
    walk_at "zz"
    have h1 := mul_len (Str.ofString "0") (m / 70 % 4) b4.1
    rw [l0, Nat.one_mul] at h1
    refine z_addS (szl (by omega)) ?_
    exact (q _ (by rw [txt_app_len]; omega)).go (Ex.refl H)
  walk_at "zz"
  refine ite_b (fun _ => ?_) (fun _ => ?_)
  · walk_at "zz"
    have l0 : (Str.ofString "0").length = 1 := by decide +kernel
    have l1' : (Str.ofString "1").length = 1 := by decide +kernel
    refine z_mulS (mul_ok _ 64 (by decide) (by decide) (by omega)) ?_
    walk_at "zz"
    refine z_mulS (mul_ok _ 65 (by decide) (by decide) (by omega)) ?_
    walk_at "zz"
    refine z_mulS (mul_ok _ 65 (by decide) (by decide) (by omega)) ?_
    walk_at "zz"
    refine ⟨szl (by simp), fun p hp => ?_⟩
    walk_at "zz"
    have h64 := mul_len (Str.ofString "0") 64 (by decide)
    have h65 := mul_len (Str.ofString "1") 65 (by decide)
    have h66 := mul_len (Str.ofString "0") 65 (by decide)
    rw [l0, Nat.one_mul] at h64 h66
    rw [l1', Nat.one_mul] at h65
    have t64 : (64 : Int).toNat = 64 := rfl
    have t65 : (65 : Int).toNat = 65 := rfl
    have c8 : m / 7 % 8 = 0 ∨ m / 7 % 8 = 1 ∨ m / 7 % 8 = 2 ∨ m / 7 % 8 = 3 ∨ m / 7 % 8 = 4 ∨ m / 7 % 8 = 5 ∨ m / 7 % 8 = 6 ∨ m / 7 % 8 = 7 := by omega
    rcases c8 with h | h | h | h | h | h | h | h <;> rw [h]
    · exact z_ixL (sq_of upd_same) rfl ((q _ (by decide +kernel)).go (Ex.new hp))
    · exact z_ixL (sq_of upd_same) rfl ((q _ (by omega)).go (Ex.new hp))
    · exact z_ixL (sq_of upd_same) rfl ((q _ (by omega)).go (Ex.new hp))
    · exact z_ixL (sq_of upd_same) rfl ((q _ (by omega)).go (Ex.new hp))
    · exact z_ixL (sq_of upd_same) rfl ((q _ (by decide +kernel)).go (Ex.new hp))
    · exact z_ixL (sq_of upd_same) rfl ((q _ (by decide +kernel)).go (Ex.new hp))
    · exact z_ixL (sq_of upd_same) rfl ((q _ (by decide +kernel)).go (Ex.new hp))
    · exact z_ixL (sq_of upd_same) rfl ((q _ (by decide +kernel)).go (Ex.new hp))
  walk_at "zz"
  exact (q t (by omega)).go (Ex.refl H)
theorem rdT_sbits {n x : Nat} (h1 : 1 ≤ n) (h2 : n ≤ 64) (hx : x < 2 ^ n) : rdT (sbits n x) = .int (x : Int) := by
  have hl : ∀ l : List Nat, (∀ b ∈ l, b < 2) → bit01 (l.map fun b => 48 + b) = true := fun l hl => by
    refine List.all_eq_true.mpr fun c hc => ?_
    obtain ⟨b, hb, rfl⟩ := List.mem_map.mp hc
    have := hl b hb
    have c2 : b = 0 ∨ b = 1 := by omega
    rcases c2 with rfl | rfl <;> rfl
  have hb : ∀ b ∈ (bitsN n x).reverse, b < 2 := fun b hb => bits_lt n x b (List.mem_reverse.mp hb)
  have hn : ∀ (l : List Nat) (a : Nat), ((l.reverse.map fun b => 48 + b)).foldl (fun a c => 2 * a + (c - 48)) a = numN l + 2 ^ l.length * a := fun l => by
    induction l with
    | nil => intro a; simp [numN]
    | cons b l ih =>
      intro a
      rw [List.reverse_cons, List.map_append, List.foldl_append, ih]
      show 2 * (numN l + 2 ^ l.length * a) + (48 + b - 48) = b + 2 * numN l + 2 ^ (l.length + 1) * a
      rw [pow_s, Nat.mul_assoc]
      omega
  unfold rdT
  rw [sbits_len]
  have et : (sbits n x).cps.toList = (bitsN n x).reverse.map fun b => 48 + b := S_tl _
  rw [et, if_pos ⟨h1, h2, hl _ hb⟩]
  unfold num2
  rw [hn, num_bits, Nat.mod_eq_of_lt hx, Nat.mul_zero, Nat.add_zero]
theorem q_true {Q : VK} {H H' : Hp} {b : Bool} (q : RetV (.bl true) H Q) (e : Ex H H') (h : b = true) : Q (.bl b) H' := by
  rw [h]
  exact q.go e
theorem vr_L_right (vs H Q E) (h : sp_L_right vs H Q E) : (rd_L_right K) { nx := fun _ H' => Q .non H', rt := Q } (start ["_law_cell", "_law_width", "_law_word_here", "_law_number", "_law_top", "_law_k", "_law_near", "_law_some", "_law_odd", "_law_text_here", "_law_bent_here", "_law_due", "_law_found"] vs) H := by
  obtain ⟨c, rfl, hc, q⟩ := h
  unfold rd_L_right
  walk_at "zz"
  refine ⟨szl (by simp), fun p0 hp0 => ?_⟩
  walk_at "zz"
  obtain ⟨n, hn1, hn2, hat⟩ : ∃ n : Nat, 1 ≤ n ∧ n ≤ 64 ∧ atI [V.int 1, V.int 64, V.int (1 + c / 3 % 64)] (c % 3) = some (.int (n : Int)) := by
    have c3 : c % 3 = 0 ∨ c % 3 = 1 ∨ c % 3 = 2 := by omega
    rcases c3 with h | h | h <;> rw [h]
    · exact ⟨1, by decide, by decide, rfl⟩
    · exact ⟨64, by decide, by decide, rfl⟩
    · refine ⟨(1 + c / 3 % 64).toNat, by omega, by omega, ?_⟩
      rw [Int.toNat_of_nonneg (by omega)] <;> rfl
  refine z_ixL (sq_of upd_same) hat ?_
  have p2 := Nat.two_pow_pos n
  have e0 : Ex H (upd H p0 (HO.lst [V.int 1, V.int 64, V.int (1 + c / 3 % 64)])) := Ex.new hp0
  generalize (upd H p0 (HO.lst [V.int 1, V.int 64, V.int (1 + c / 3 % 64)])) = H0 at e0 ⊢
  walk_at "zz"
  refine ⟨c, 1, rfl, by decide, fun m1 a1 b1 H1 e1 => ?_⟩
  walk_at "zz"
  refine ⟨m1, n, rfl, ⟨a1, b1, hn1, hn2⟩, fun x hx H2 e2 => ?_⟩
  walk_at "zz"
  refine ⟨c, 2, rfl, by decide, fun m2 a2 b2 H3 e3 => ?_⟩
  walk_at "zz"
  refine z_FR1 (by omega) (fun i σ' H' => ∃ y, σ' = [some (.int c), some (.int (n : Int)), some (.int (x : Int)), some (.int m2), some (.int ((2 ^ i : Nat) : Int)), y, none, none, none, none, none, none, none] ∧ Ex H3 H') ?_ ?_ ?_
  · exact ⟨none, rfl, Ex.refl _⟩
  · rintro i σ' H' hi ⟨y, rfl, e⟩
    walk_at "zz"
    refine ⟨some (.int (i : Int)), ?_, e⟩
    rw [Nat.pow_succ, Nat.mul_comm, Int.natCast_mul] <;> rfl
  rintro σ' H4 ⟨y, rfl, e4⟩
  rw [Int.toNat_natCast]
  walk_at "zz"
  refine ⟨szl (by simp), fun p5 hp5 => ?_⟩
  walk_at "zz"
  obtain ⟨near, hnear⟩ : ∃ z : Int, atI [V.int (x : Int), V.int ((2 ^ n : Nat) : Int), V.int (((2 ^ n : Nat) : Int) - 1), V.int (-1), V.int (-1 - (x : Int)), V.int (((2 ^ n : Nat) : Int) + m2 / 6)] (m2 % 6) = some (.int z) := by
    have c6 : m2 % 6 = 0 ∨ m2 % 6 = 1 ∨ m2 % 6 = 2 ∨ m2 % 6 = 3 ∨ m2 % 6 = 4 ∨ m2 % 6 = 5 := by omega
    rcases c6 with h | h | h | h | h | h <;> rw [h] <;> exact ⟨_, rfl⟩
  refine z_ixL (sq_of upd_same) hnear ?_
  have e5 := Ex.new (o := HO.lst [V.int (x : Int), V.int ((2 ^ n : Nat) : Int), V.int (((2 ^ n : Nat) : Int) - 1), V.int (-1), V.int (-1 - (x : Int)), V.int (((2 ^ n : Nat) : Int) + m2 / 6)]) hp5
  generalize upd H4 p5 (HO.lst [V.int (x : Int), V.int ((2 ^ n : Nat) : Int), V.int (((2 ^ n : Nat) : Int) - 1), V.int (-1), V.int (-1 - (x : Int)), V.int (((2 ^ n : Nat) : Int) + m2 / 6)]) = H5 at e5 ⊢
  walk_at "zz"
  refine z_cut (fun σ' H' => ∃ y, σ' = [some (.int c), some (.int (n : Int)), some (.int (x : Int)), some (.int m2), some (.int ((2 ^ n : Nat) : Int)), y, some (.int near), none, none, none, none, none, none] ∧ Ex H5 H') ?_ ?_
  · walk_at "zz"
    refine ⟨_, n, _, rfl, hn2, .inl ⟨near, rfl, rfl⟩, fun H6 e6 => ?_⟩
    walk_at "zz"
    refine ite_b (fun h1 => ?_) (fun h1 => ?_)
    · have h1' := of_decide_eq_true h1
      walk_at "zz"
      refine ⟨_, _, rfl, fun H7 e7 => ?_⟩
      walk_at "zz"
      refine ite_b (fun h => ?_) (fun _ => ?_)
      · exfalso
        have g : decide (0 ≤ near ∧ near < ((2 ^ n : Nat) : Int)) = decide (near < ((2 ^ n : Nat) : Int)) := decide_eq_decide.mpr ⟨fun h => h.2, fun h => ⟨h1', h⟩⟩
        rw [g, decide_eq_true rfl] at h
        cases h
      walk_at "zz"
      exact ⟨_, rfl, e6.trans e7⟩
    · have h1' := of_decide_eq_false h1
      walk_at "zz"
      refine ⟨_, _, rfl, fun H7 e7 => ?_⟩
      walk_at "zz"
      refine ite_b (fun h => ?_) (fun _ => ?_)
      · exfalso
        rw [decide_eq_false (fun h : 0 ≤ near ∧ near < ((2 ^ n : Nat) : Int) => h1' h.1), decide_eq_true rfl] at h
        cases h
      walk_at "zz"
      exact ⟨_, rfl, e6.trans e7⟩
  rintro σ' H6 ⟨y, rfl, e6⟩
  walk_at "zz"
  refine ⟨szl (by simp), fun p7 hp7 => ?_⟩
  walk_at "zz"
  obtain ⟨some7, hsome⟩ : ∃ z : Int, atI [V.int 0, V.int 1, V.int 64, V.int 65, V.int (-1), V.int (m2 / 12 % 100), V.int (0 - m2 / 12 % 100), V.int m2] (m2 / 6 % 8) = some (.int z) := by
    have c8 : m2 / 6 % 8 = 0 ∨ m2 / 6 % 8 = 1 ∨ m2 / 6 % 8 = 2 ∨ m2 / 6 % 8 = 3 ∨ m2 / 6 % 8 = 4 ∨ m2 / 6 % 8 = 5 ∨ m2 / 6 % 8 = 6 ∨ m2 / 6 % 8 = 7 := by omega
    rcases c8 with h | h | h | h | h | h | h | h <;> rw [h] <;> exact ⟨_, rfl⟩
  refine z_ixL (sq_of upd_same) hsome ?_
  have e7 := Ex.new (o := HO.lst [V.int 0, V.int 1, V.int 64, V.int 65, V.int (-1), V.int (m2 / 12 % 100), V.int (0 - m2 / 12 % 100), V.int m2]) hp7
  generalize upd H6 p7 (HO.lst [V.int 0, V.int 1, V.int 64, V.int 65, V.int (-1), V.int (m2 / 12 % 100), V.int (0 - m2 / 12 % 100), V.int m2]) = H7 at e7 ⊢
  walk_at "zz"
  refine z_cut (fun σ' H' => σ' = [some (.int c), some (.int (n : Int)), some (.int (x : Int)), some (.int m2), some (.int ((2 ^ n : Nat) : Int)), y, some (.int near), some (.int some7), none, none, none, none, none] ∧ Ex H7 H') ?_ ?_
  · walk_at "zz"
    refine ⟨_, _, rfl, .inl ⟨some7, rfl, rfl⟩, fun H8 e8 => ?_⟩
    walk_at "zz"
    refine ite_b (fun h1 => ?_) (fun h1 => ?_)
    · have h1' := of_decide_eq_true h1
      walk_at "zz"
      refine ⟨_, _, rfl, fun H9 e9 => ?_⟩
      walk_at "zz"
      refine ite_b (fun h => ?_) (fun _ => ?_)
      · exfalso
        have g : decide (1 ≤ some7 ∧ some7 ≤ 64) = decide (some7 ≤ 64) := decide_eq_decide.mpr ⟨fun h => h.2, fun h => ⟨h1', h⟩⟩
        rw [g, decide_eq_true rfl] at h
        cases h
      walk_at "zz"
      exact ⟨rfl, e8.trans e9⟩
    · have h1' := of_decide_eq_false h1
      walk_at "zz"
      refine ⟨_, _, rfl, fun H9 e9 => ?_⟩
      walk_at "zz"
      refine ite_b (fun h => ?_) (fun _ => ?_)
      · exfalso
        rw [decide_eq_false (fun h : 1 ≤ some7 ∧ some7 ≤ 64 => h1' h.1), decide_eq_true rfl] at h
        cases h
      walk_at "zz"
      exact ⟨rfl, e8.trans e9⟩
  rintro σ' H8 ⟨rfl, e8⟩
  walk_at "zz"
  refine ⟨szl (by simp), fun q1 hq1 => ?_⟩
  walk_at "zz"
  refine ⟨szl (by simp), fun q2 hq2 => ?_⟩
  walk_at "zz"
  refine z_dnew fun q3 hq3 => ?_
  walk_at "zz"
  refine ⟨szl (by simp), fun q4 hq4 => ?_⟩
  walk_at "zz"
  refine ⟨szl (by simp), fun q5 hq5 => ?_⟩
  walk_at "zz"
  refine ⟨szl (by simp), fun q6 hq6 => ?_⟩
  walk_at "zz"
  have e9 : Ex H8 (upd H8 q1 (HO.lst [V.int 1])) := Ex.new hq1
  have f1 : (upd H8 q1 (HO.lst [V.int 1])) q1 = some (.lst [V.int 1]) := upd_same
  generalize upd H8 q1 (HO.lst [V.int 1]) = G1 at *
  have e10 : Ex G1 (upd G1 q2 (HO.tup [V.int 1])) := Ex.new hq2
  have f2 : (upd G1 q2 (HO.tup [V.int 1])) q2 = some (.tup [V.int 1]) := upd_same
  generalize upd G1 q2 (HO.tup [V.int 1]) = G2 at *
  have e11 : Ex G2 (upd G2 q3 (HO.dK [])) := Ex.new hq3
  have f3 : (upd G2 q3 (HO.dK [])) q3 = some (.dK []) := upd_same
  generalize upd G2 q3 (HO.dK []) = G3 at *
  have e12 : Ex G3 (upd G3 q4 (HO.lst [])) := Ex.new hq4
  have f4 : (upd G3 q4 (HO.lst [])) q4 = some (.lst []) := upd_same
  generalize upd G3 q4 (HO.lst []) = G4 at *
  have e13 : Ex G4 (upd G4 q5 (HO.lst [V.str "1"])) := Ex.new hq5
  have f5 : (upd G4 q5 (HO.lst [V.str "1"])) q5 = some (.lst [V.str "1"]) := upd_same
  generalize upd G4 q5 (HO.lst [V.str "1"]) = G5 at *
  have oddAt : ∃ v, atI [V.bl true, V.bl false, V.non, V.str "1", V.ref q1, V.ref q2, V.ref q3, V.str "", V.ref q4, V.ref q5] (m2 / 48 % 10) = some v ∧ Odd G5 v := by
    have c10 : m2 / 48 % 10 = 0 ∨ m2 / 48 % 10 = 1 ∨ m2 / 48 % 10 = 2 ∨ m2 / 48 % 10 = 3 ∨ m2 / 48 % 10 = 4 ∨ m2 / 48 % 10 = 5 ∨ m2 / 48 % 10 = 6 ∨ m2 / 48 % 10 = 7 ∨ m2 / 48 % 10 = 8 ∨ m2 / 48 % 10 = 9 := by omega
    rcases c10 with h | h | h | h | h | h | h | h | h | h <;> rw [h]
    · exact ⟨_, rfl, .inl ⟨_, rfl⟩⟩
    · exact ⟨_, rfl, .inl ⟨_, rfl⟩⟩
    · exact ⟨_, rfl, .inr (.inl rfl)⟩
    · exact ⟨_, rfl, .inr (.inr (.inl ⟨_, rfl⟩))⟩
    · exact ⟨_, rfl, .inr (.inr (.inr ⟨_, rfl, .inl ⟨_, e13 _ _ (e12 _ _ (e11 _ _ (e10 _ _ f1)))⟩⟩))⟩
    · exact ⟨_, rfl, .inr (.inr (.inr ⟨_, rfl, .inr (.inl ⟨_, e13 _ _ (e12 _ _ (e11 _ _ f2))⟩)⟩))⟩
    · exact ⟨_, rfl, .inr (.inr (.inr ⟨_, rfl, .inr (.inr ⟨_, e13 _ _ (e12 _ _ f3)⟩)⟩))⟩
    · exact ⟨_, rfl, .inr (.inr (.inl ⟨_, rfl⟩))⟩
    · exact ⟨_, rfl, .inr (.inr (.inr ⟨_, rfl, .inl ⟨_, e13 _ _ f4⟩⟩))⟩
    · exact ⟨_, rfl, .inr (.inr (.inr ⟨_, rfl, .inl ⟨_, f5⟩⟩))⟩
  obtain ⟨odd, hodd, ho⟩ := oddAt
  refine z_ixL (sq_of upd_same) hodd ?_
  have e14 := Ex.new (o := HO.lst [V.bl true, V.bl false, V.non, V.str "1", V.ref q1, V.ref q2, V.ref q3, V.str "", V.ref q4, V.ref q5]) hq6
  generalize upd G5 q6 (HO.lst [V.bl true, V.bl false, V.non, V.str "1", V.ref q1, V.ref q2, V.ref q3, V.str "", V.ref q4, V.ref q5]) = G6 at e14 ⊢
  have ho6 := ho.mono e14
  walk_at "zz"
  refine ⟨_, n, false, rfl, hn2, .inr ⟨ho6, rfl⟩, fun H9 e15 => ?_⟩
  walk_at "zz"
  refine ite_b (fun h => absurd h (by decide)) (fun _ => ?_)
  walk_at "zz"
  refine ⟨_, false, rfl, .inr ⟨ho6.mono e15, rfl⟩, fun H10 e16 => ?_⟩
  walk_at "zz"
  refine ite_b (fun h => absurd h (by decide)) (fun _ => ?_)
  walk_at "zz"
  refine ⟨x, n, rfl, hn2, fun H11 e17 => ?_⟩
  walk_at "zz"
  refine z_isi (T := "str") (U := "str") (b := true) (.base (.str _)) (kit_ty (by decide +kernel)) ?_
  walk_at "zz"
  refine ite_b (fun h => absurd h (by decide)) (fun _ => ?_)
  walk_at "zz"
  refine ⟨x, n, rfl, hn2, fun H12 e18 => ?_⟩
  walk_at "zz"
  rw [decide_eq_true rfl]
  refine ite_b (fun h => absurd h (by decide)) (fun _ => ?_)
  walk_at "zz"
  have rw1 := rdT_sbits hn1 hn2 hx
  have sl : (sbits n x).length ≤ 1000 := by rw [sbits_len]; omega
  refine ⟨_, _, rfl, .inl ⟨_, rfl, sl, rw1.symm⟩, fun H13 e19 => ?_⟩
  walk_at "zz"
  refine ⟨_, true, rfl, .inl ⟨_, rfl, rfl⟩, fun H14 e20 => ?_⟩
  walk_at "zz"
  refine ite_b (fun h => absurd h (by decide)) (fun _ => ?_)
  walk_at "zz"
  refine ⟨_, _, rfl, .inl ⟨_, rfl, sl, rw1.symm⟩, fun H15 e21 => ?_⟩
  walk_at "zz"
  rw [decide_eq_true rfl]
  refine ite_b (fun h => absurd h (by decide)) (fun _ => ?_)
  walk_at "zz"
  refine ⟨c, 3, rfl, by decide, fun m3 a3 b3 H16 e22 => ?_⟩
  walk_at "zz"
  refine ⟨_, m3, rfl, by rw [sbits_len]; exact hn2, a3, fun t ht H17 e23 => ?_⟩
  walk_at "zz"
  refine ⟨t, rfl, ht, fun H18 e24 => ?_⟩
  walk_at "zz"
  refine ⟨_, _, rfl, .inl ⟨t, rfl, ht, rfl⟩, fun H19 e25 => ?_⟩
  walk_at "zz"
  refine z_cut (fun σ' H' => σ' = [some (.int c), some (.int (n : Int)), some (.int (x : Int)), some (.int m2), some (.int ((2 ^ n : Nat) : Int)), y, some (.int near), some (.int some7), some odd, some (.str (sbits n x)), some (.str t), some (rdT t), some (rdT t)] ∧ Ex H19 H') ?_ ?_
  · walk_at "zz"
    have two : rdT t = .non ∨ ∃ i : Int, rdT t = .int i := by
      unfold rdT
      by_cases h : 1 ≤ t.length ∧ t.length ≤ 64 ∧ bit01 t.cps.toList = true
      · rw [if_pos h]
        exact .inr ⟨_, rfl⟩
      · rw [if_neg h]
        exact .inl rfl
    rcases two with h | ⟨i, h⟩ <;> rw [h]
    · refine ite_b (fun _ => ?_) (fun h => absurd h (by decide))
      walk_at "zz"
      refine ite_b (fun h => absurd h (by decide)) (fun _ => ?_)
      walk_at "zz"
      refine ite_b (fun h => absurd h (by decide)) (fun _ => ?_)
      walk_at "zz"
      exact ⟨rfl, Ex.refl _⟩
    · refine ite_b (fun h => absurd h (by simp)) (fun _ => ?_)
      walk_at "zz"
      refine ite_b (fun _ => ?_) (fun h => absurd h (by simp))
      walk_at "zz"
      refine ⟨_, true, rfl, .inl ⟨i, rfl, rfl⟩, fun H20 e26 => ?_⟩
      walk_at "zz"
      refine ite_b (fun h => absurd h (by decide)) (fun _ => ?_)
      walk_at "zz"
      rw [decide_eq_true rfl]
      refine ite_b (fun h => absurd h (by decide)) (fun _ => ?_)
      walk_at "zz"
      exact ⟨rfl, e26⟩
  rintro σ' H20 ⟨rfl, e26⟩
  walk_at "zz"
  have hox : Odd H20 odd := ho6.mono (by walk_at "ex")
  have ee : Ex H H20 := by walk_at "ex"
  obtain ⟨T, ty, ⟨rfl, b, rfl⟩ | ⟨hT, hTs⟩⟩ := odd_kit (K := K) hox
  · refine z_isi (T := "bool") (U := "str") (b := false) ty (kit_ty (by decide +kernel)) ?_
    walk_at "zz"
    refine ⟨_, .non, rfl, .inr ⟨hox, rfl, rfl⟩, fun H21 e27 => ?_⟩
    walk_at "zz"
    exact q_true q (ee.trans e27) rfl
  · cases hs : isStr odd with
    | true =>
      have hTs' := hTs.mpr hs
      subst hTs'
      refine z_isi (T := "str") (U := "str") (b := true) ty (kit_ty (by decide +kernel)) ?_
      walk_at "zz"
      exact q_true q ee rfl
    | false =>
      refine z_isi (T := T) (U := "str") (b := false) ty (kitS hT fun z => by rw [hTs.mp z] at hs; cases hs) ?_
      walk_at "zz"
      refine ⟨_, .non, rfl, .inr ⟨hox, hs, rfl⟩, fun H21 e27 => ?_⟩
      walk_at "zz"
      exact q_true q (ee.trans e27) rfl
theorem vr_law (vs H Q E) (h : sp_law K vs H Q E) : (rd_law K) { nx := fun _ H' => Q .non H', rt := Q } (start ["_law_script", "_law_cell"] vs) H := by
  obtain ⟨a, ns, rfl, hS, hl, q⟩ := h
  unfold rd_law
  walk_at "zz"
  refine z_slL hS fun p hp => ?_
  walk_at "zz"
  refine ⟨szl (by simp), fun p2 hp2 => ?_⟩
  walk_at "zz"
  have e63 : cutV (ns.map V.int) none (some 63) = ns.map V.int := by
    unfold cutV
    rw [HT.sIx_none, show (63 : Int) = ((63 : Nat) : Int) from rfl, HT.sIx_nat, List.length_map, Nat.min_eq_right hl, Nat.sub_zero, List.drop_zero]
    exact List.take_of_length_le (by rw [List.length_map]; omega)
  have n2 : p ≠ p2 := ne_of_none upd_same hp2
  refine z_cat (by rw [upd_ne n2]; exact upd_same) upd_same (by rw [e63, List.length_map]; exact szl (by simp; omega)) fun p3 hp3 => ?_
  rw [e63]
  have hx : ns.map V.int ++ [V.int 2] = (ns ++ [2]).map V.int := by rw [List.map_append] <;> rfl
  rw [hx]
  refine z_FL (xs := (ns ++ [2]).map V.int) (sq_of upd_same) (fun i σ' H' => ∃ y, σ' = [some (.ref a), y] ∧ Ex (upd (upd (upd H p (HO.lst (ns.map V.int))) p2 (HO.lst [V.int 2])) p3 (HO.lst ((ns ++ [2]).map V.int))) H') ?_ ?_ ?_ ?_
  · exact ⟨none, rfl, Ex.refl _⟩
  · rintro i σ' H' hi ⟨y, rfl, e⟩
    exact sq_of (e p3 _ upd_same)
  · rintro i x σ' H' hi hx ⟨y, rfl, e⟩
    obtain ⟨c, hc, rfl⟩ : ∃ c : Int, (ns ++ [2])[i]? = some c ∧ x = .int c := by
      rw [List.getElem?_map] at hx
      cases e2 : (ns ++ [2])[i]? with
      | none =>
        rw [e2] at hx
        cases hx
      | some c =>
        rw [e2] at hx
        exact ⟨c, rfl, (Option.some.inj hx).symm⟩
    walk_at "zz"
    refine ⟨_, rfl, ⟨Int.emod_nonneg _ (by decide), Int.emod_lt_of_pos _ (by decide)⟩, fun H2 e2 => ?_⟩
    walk_at "zz"
    refine ite_b (fun h => absurd h (by decide)) (fun _ => ?_)
    walk_at "zz"
    exact ⟨_, rfl, e.trans e2⟩
  · rintro σ' H' ⟨y, rfl, e⟩
    walk_at "zz"
    have n1 : Ex H (upd H p (HO.lst (ns.map V.int))) := Ex.new hp
    rw [e63] at hp2 hp3
    exact q.go (((n1.trans (Ex.new hp2)).trans (Ex.new hp3)).trans e)
end

end K02
namespace K02
open PySem PySem.Spec PyProof.Rows L2 Z
open Evl (Ex ex_l ex_t sq_of st_of fresh_back RetL RetV)

def topS (i : Nat) : Stmt := PySem.Challenge.pw_wireyard_k02_words_told_by_signs.main.body.getD i (.Pass ⟨0, 0, 0, 0⟩)
abbrev s_L_word : Stmt := topS 12
theorem sc_L_word : FnScope ["_law_cell", "_law_width", "_law_top", "_law_many", "_law_bit"] ["_law_cell", "_law_width"] (defScope s_L_word) := ⟨rfl, rfl, rfl, by decide +kernel, rfl, by decide +kernel, by decide +kernel⟩
abbrev s_L_mixed : Stmt := topS 10
theorem sc_L_mixed : FnScope ["_law_cell", "_law_k", "_law_number"] ["_law_cell", "_law_k"] (defScope s_L_mixed) := ⟨rfl, rfl, rfl, by decide +kernel, rfl, by decide +kernel, by decide +kernel⟩
abbrev s_L_truth : Stmt := topS 16
theorem sc_L_truth : FnScope ["_law_found", "_law_due"] ["_law_found", "_law_due"] (defScope s_L_truth) := ⟨rfl, rfl, rfl, by decide +kernel, rfl, by decide +kernel, by decide +kernel⟩
abbrev s_is_whole : Stmt := topS 2
theorem sc_is_whole : FnScope ["thing"] ["thing"] (defScope s_is_whole) := ⟨rfl, rfl, rfl, by decide +kernel, rfl, by decide +kernel, by decide +kernel⟩
abbrev s_top_of : Stmt := topS 5
theorem sc_top_of : FnScope ["width"] ["width"] (defScope s_top_of) := ⟨rfl, rfl, rfl, by decide +kernel, rfl, by decide +kernel, by decide +kernel⟩
abbrev s_is_word : Stmt := topS 4
theorem sc_is_word : FnScope ["thing", "width"] ["thing", "width"] (defScope s_is_word) := ⟨rfl, rfl, rfl, by decide +kernel, rfl, by decide +kernel, by decide +kernel⟩
abbrev s_is_width : Stmt := topS 3
theorem sc_is_width : FnScope ["thing"] ["thing"] (defScope s_is_width) := ⟨rfl, rfl, rfl, by decide +kernel, rfl, by decide +kernel, by decide +kernel⟩
abbrev s_bits_text : Stmt := topS 7
theorem sc_bits_text : FnScope ["word", "width", "at"] ["word", "width"] (defScope s_bits_text) := ⟨rfl, rfl, rfl, by decide +kernel, rfl, by decide +kernel, by decide +kernel⟩
abbrev s_L_text : Stmt := topS 13
theorem sc_L_text : FnScope ["_law_word_here", "_law_width", "_law_found", "_law_k"] ["_law_word_here", "_law_width"] (defScope s_L_text) := ⟨rfl, rfl, rfl, by decide +kernel, rfl, by decide +kernel, by decide +kernel⟩
abbrev s_L_whole : Stmt := topS 11
theorem sc_L_whole : FnScope ["_law_found"] ["_law_found"] (defScope s_L_whole) := ⟨rfl, rfl, rfl, by decide +kernel, rfl, by decide +kernel, by decide +kernel⟩
abbrev s_joined_words : Stmt := topS 6
theorem sc_joined_words : FnScope ["high", "low", "many"] ["high", "low", "many"] (defScope s_joined_words) := ⟨rfl, rfl, rfl, by decide +kernel, rfl, by decide +kernel, by decide +kernel⟩
abbrev s_word_by_bits : Stmt := topS 8
theorem sc_word_by_bits : FnScope ["text", "word", "sign"] ["text"] (defScope s_word_by_bits) := ⟨rfl, rfl, rfl, by decide +kernel, rfl, by decide +kernel, by decide +kernel⟩
abbrev s_L_bent : Stmt := topS 15
theorem sc_L_bent : FnScope ["_law_text_here", "_law_number", "_law_sign", "_law_at"] ["_law_text_here", "_law_number"] (defScope s_L_bent) := ⟨rfl, rfl, rfl, by decide +kernel, rfl, by decide +kernel, by decide +kernel⟩
abbrev s_L_read : Stmt := topS 14
theorem sc_L_read : FnScope ["_law_text_here", "_law_found", "_law_sign"] ["_law_text_here"] (defScope s_L_read) := ⟨rfl, rfl, rfl, by decide +kernel, rfl, by decide +kernel, by decide +kernel⟩
abbrev s_L_right : Stmt := topS 17
theorem sc_L_right : FnScope ["_law_cell", "_law_width", "_law_word_here", "_law_number", "_law_top", "_law_k", "_law_near", "_law_some", "_law_odd", "_law_text_here", "_law_bent_here", "_law_due", "_law_found"] ["_law_cell"] (defScope s_L_right) := ⟨rfl, rfl, rfl, by decide +kernel, rfl, by decide +kernel, by decide +kernel⟩
abbrev s_law : Stmt := topS 18
theorem sc_law : FnScope ["_law_script", "_law_cell"] ["_law_script"] (defScope s_law) := ⟨rfl, rfl, rfl, by decide +kernel, rfl, by decide +kernel, by decide +kernel⟩
structure Tx (K : PySem.W.Frag) (mg : Str → Option Value) : Prop where
  d_L_word : DX K mg "_law_word" s_L_word
  d_L_mixed : DX K mg "_law_mixed" s_L_mixed
  d_L_truth : DX K mg "_law_truth" s_L_truth
  d_is_whole : DX K mg "is_whole" s_is_whole
  d_top_of : DX K mg "top_of" s_top_of
  d_is_word : DX K mg "is_word" s_is_word
  d_is_width : DX K mg "is_width" s_is_width
  d_bits_text : DX K mg "bits_text" s_bits_text
  d_L_text : DX K mg "_law_text" s_L_text
  d_L_whole : DX K mg "_law_whole" s_L_whole
  d_joined_words : DX K mg "joined_words" s_joined_words
  d_word_by_bits : DX K mg "word_by_bits" s_word_by_bits
  d_L_bent : DX K mg "_law_bent" s_L_bent
  d_L_read : DX K mg "_law_read" s_L_read
  d_L_right : DX K mg "_law_right" s_L_right
  d_law : DX K mg "law" s_law
  n_bool : mg "bool" = none
  n_int : mg "int" = none
  n_isinstance : mg "isinstance" = none
  n_len : mg "len" = none
  n_range : mg "range" = none
  n_reversed : mg "reversed" = none
  n_str : mg "str" = none
  c_MOST_WIDTH : ∃ u, mg "MOST_WIDTH" = some u ∧ RelV (.int 64) u
section
variable {P : Program} {w : World} {K : PySem.W.Frag} {mg : Str → Option Value} {base : Heap}
theorem ok_L_word (T : Tx K mg) : Cal P w K mg base 1 "_law_word" sp_L_word :=
  cal_mk (t := (rd_L_word K)) T.d_L_word sc_L_word (fun _ _ _ _ _ _ us hl => match us, hl with | [_, _], _ => rfl) len_L_word
    (fun f cdv A outer s H E hr => (pss_cons (ps_set (i := 2) sc_L_word.nd rfl (.inl rfl) (pe_op op_sub (pe_op op_shlW pe_int (pv 1)) pe_int))
    (pss_cons (ps_set (i := 3) sc_L_word.nd rfl (.inl rfl) (pe_op op_mul (pe_op op_fdiv (pv 0) pe_int) (pe_op op_pow pe_int pe_int)))
    (pss_cons (ps_set (i := 4) sc_L_word.nd rfl (.inl rfl) (pe_op op_shlW pe_int (pe_op op_mod (pe_op op_fdiv (pv 0) pe_int) (pv 1))))
    (pss_one (ps_ret (pe_ix ix_list (pe_lst (pa_cons pe_int (pa_cons pe_int (pa_cons (pv 2) (pa_cons (pv 4) (pa_cons (pe_op op_sub (pv 4) pe_int) (pa_cons (pe_op op_mod (pv 3) (pe_op op_add (pv 2) pe_int)) pa_nil))))))) (pe_op op_mod (pv 0) pe_int) (fun _ _ => rfl))))))))
    (fun vs H Q E h => vr_L_word vs H Q E h)
theorem ok_L_mixed (T : Tx K mg) : Cal P w K mg base 1 "_law_mixed" sp_L_mixed :=
  cal_mk (t := rd_L_mixed) T.d_L_mixed sc_L_mixed (fun _ _ _ _ _ _ us hl => match us, hl with | [_, _], _ => rfl) len_L_mixed
    (fun f cdv A outer s H E hr => (pss_cons (ps_set (i := 2) sc_L_mixed.nd rfl (.inl rfl) (pe_op op_mod (pe_op op_mul (pe_op op_add (pe_op op_add (pe_op op_mod (pv 0) pe_int) (pe_op op_mul (pe_op op_mul pe_int (pv 1)) (pv 1))) pe_int) pe_int) pe_int))
    (pss_one (ps_ret (pe_op op_mod (pe_op op_mul (pv 2) (pe_op op_add pe_int (pe_op op_mul pe_int (pv 1)))) pe_int)))))
    (fun vs H Q E h => vr_L_mixed vs H Q E h)
theorem ok_L_truth (T : Tx K mg) : Cal P w K mg base 1 "_law_truth" sp_L_truth :=
  cal_mk (t := (rd_L_truth K)) T.d_L_truth sc_L_truth (fun _ _ _ _ _ _ us hl => match us, hl with | [_, _], _ => rfl) len_L_truth
    (fun f cdv A outer s H E hr => (pss_one (ps_ret (pe_andT (pe_callB call_isi (by rfl) T.n_isinstance (by decide +kernel) (pa_cons (pv 0) (pa_cons (pe_bltn (by rfl) T.n_bool (by decide +kernel) rfl) pa_nil))) (pe_one (pe_cmpR op_eq (pv 0) (pv 1) (nomark _)))))))
    (fun vs H Q E h => vr_L_truth vs H Q E h)
theorem ok_is_whole (T : Tx K mg) : Cal P w K mg base 1 "is_whole" (sp_is_whole K) :=
  cal_mk (t := (rd_is_whole K)) T.d_is_whole sc_is_whole (fun _ _ _ _ _ _ us hl => match us, hl with | [_], _ => rfl) len_is_whole
    (fun f cdv A outer s H E hr => (pss_one (ps_ret (pe_andT (pe_callB call_isi (by rfl) T.n_isinstance (by decide +kernel) (pa_cons (pv 0) (pa_cons (pe_bltn (by rfl) T.n_int (by decide +kernel) rfl) pa_nil))) (pe_one (pe_notT (pe_callB call_isi (by rfl) T.n_isinstance (by decide +kernel) (pa_cons (pv 0) (pa_cons (pe_bltn (by rfl) T.n_bool (by decide +kernel) rfl) pa_nil)))))))))
    (fun vs H Q E h => vr_is_whole vs H Q E h)
theorem ok_top_of (T : Tx K mg) : Cal P w K mg base 1 "top_of" sp_top_of :=
  cal_mk (t := rd_top_of) T.d_top_of sc_top_of (fun _ _ _ _ _ _ us hl => match us, hl with | [_], _ => rfl) len_top_of
    (fun f cdv A outer s H E hr => (pss_one (ps_ret (pe_op op_sub (pe_op op_shlW pe_int (pv 0)) pe_int))))
    (fun vs H Q E h => vr_top_of vs H Q E h)
theorem ok_is_word (T : Tx K mg) : Cal P w K mg base 2 "is_word" (sp_is_word K) :=
  cal_mk (t := (rd_is_word K)) T.d_is_word sc_is_word (fun _ _ _ _ _ _ us hl => match us, hl with | [_, _], _ => rfl) len_is_word
    (fun f cdv A outer s H E hr => (pss_one (ps_ret (pe_andT (pe_c (ok_is_whole T) hr (by decide) (by rfl) (pa_cons (pv 0) pa_nil)) (pe_one (pe_chain op_le op_le pe_int (pv 0) (pe_c (ok_top_of T) hr (by decide) (by rfl) (pa_cons (pv 1) pa_nil))))))))
    (fun vs H Q E h => vr_is_word vs H Q E h)
theorem ok_is_width (T : Tx K mg) : Cal P w K mg base 2 "is_width" (sp_is_width K) :=
  cal_mk (t := (rd_is_width K)) T.d_is_width sc_is_width (fun _ _ _ _ _ _ us hl => match us, hl with | [_], _ => rfl) len_is_width
    (fun f cdv A outer s H E hr => (pss_one (ps_ret (pe_andT (pe_c (ok_is_whole T) hr (by decide) (by rfl) (pa_cons (pv 0) pa_nil)) (pe_one (pe_chain op_le op_le pe_int (pv 0) (pe_gc (by rfl) T.c_MOST_WIDTH)))))))
    (fun vs H Q E h => vr_is_width vs H Q E h)
theorem ok_bits_text (T : Tx K mg) : Cal P w K mg base 1 "bits_text" sp_bits_text :=
  cal_mk (t := (rd_bits_text K)) T.d_bits_text sc_bits_text (fun _ _ _ _ _ _ us hl => match us, hl with | [_, _], _ => rfl) len_bits_text
    (fun f cdv A outer s H E hr => (pss_one (ps_ret (pe_bm PySem.F.plainAttrs_str PySem.F.slot_str_join PySem.F.type_str_join mt_join pe_str (pa_cons (pe_lc (own := [("at", 2)]) (g := (gName 2)) (tt := tYes) rfl sc_bits_text.nd (pi_revR (by rfl) T.n_reversed (prg_1 (by rfl) T.n_range (pv 1))) (blkOk_by (N := ["word", "width", "at"]) (sc := defScope s_bits_text) (by decide +kernel)) (fun _ _ _ _ _ => (pg_name (i := 2) sc_bits_text.nd rfl (.inl rfl))) (fun _ _ _ _ _ => pts_nil) (fun _ _ _ _ _ => (pe_callTy call_str_int (by rfl) T.n_str (by decide +kernel) (pa_cons (pe_op op_and (pe_op op_shr (pv 0) (pv 2)) pe_int) pa_nil)))) pa_nil)))))
    (fun vs H Q E h => vr_bits_text vs H Q E h)
theorem ok_L_text (T : Tx K mg) : Cal P w K mg base 1 "_law_text" sp_L_text :=
  cal_mk (t := rd_L_text) T.d_L_text sc_L_text (fun _ _ _ _ _ _ us hl => match us, hl with | [_, _], _ => rfl) len_L_text
    (fun f cdv A outer s H E hr => (pss_cons (ps_set (i := 2) sc_L_text.nd rfl (.inl rfl) pe_str)
    (pss_cons (ps_for PassesOwn.never rfl (pi_range1 (by rfl) T.n_range (pa_cons (pv 1) pa_nil)) (pg_name (i := 3) sc_L_text.nd rfl (.inl rfl)) (pss_cons (ps_set (i := 2) sc_L_text.nd rfl (.inl rfl) (pe_op op_add_str (pe_ix ix_str pe_str (pe_op op_mod (pv 0) pe_int) (fun _ _ => rfl)) (pv 2)))
    (pss_one (ps_set (i := 0) sc_L_text.nd rfl (.inl rfl) (pe_op op_fdiv (pv 0) pe_int)))))
    (pss_one (ps_ret (pv 2))))))
    (fun vs H Q E h => vr_L_text vs H Q E h)
theorem ok_L_whole (T : Tx K mg) : Cal P w K mg base 1 "_law_whole" (sp_L_whole K) :=
  cal_mk (t := (rd_L_whole K)) T.d_L_whole sc_L_whole (fun _ _ _ _ _ _ us hl => match us, hl with | [_], _ => rfl) len_L_whole
    (fun f cdv A outer s H E hr => (pss_one (ps_ret (pe_andT (pe_callB call_isi (by rfl) T.n_isinstance (by decide +kernel) (pa_cons (pv 0) (pa_cons (pe_bltn (by rfl) T.n_int (by decide +kernel) rfl) pa_nil))) (pe_one (pe_notT (pe_callB call_isi (by rfl) T.n_isinstance (by decide +kernel) (pa_cons (pv 0) (pa_cons (pe_bltn (by rfl) T.n_bool (by decide +kernel) rfl) pa_nil)))))))))
    (fun vs H Q E h => vr_L_whole vs H Q E h)
theorem ok_joined_words (T : Tx K mg) : Cal P w K mg base 1 "joined_words" sp_joined_words :=
  cal_mk (t := rd_joined_words) T.d_joined_words sc_joined_words (fun _ _ _ _ _ _ us hl => match us, hl with | [_, _, _], _ => rfl) len_joined_words
    (fun f cdv A outer s H E hr => (pss_one (ps_ret (pe_op op_or (pe_op op_shlW (pv 0) (pv 2)) (pv 1)))))
    (fun vs H Q E h => vr_joined_words vs H Q E h)
theorem ok_word_by_bits (T : Tx K mg) : Cal P w K mg base 3 "word_by_bits" (sp_word_by_bits K) :=
  cal_mk (t := (rd_word_by_bits K)) T.d_word_by_bits sc_word_by_bits (fun _ _ _ _ _ _ us hl => match us, hl with | [_], _ => rfl) len_word_by_bits
    (fun f cdv A outer s H E hr => (pss_cons (ps_if (PW.pt (pw_or (pt_not (pt_truth (pe_callB call_isi (by rfl) T.n_isinstance (by decide +kernel) (pa_cons (pv 0) (pa_cons (pe_bltn (by rfl) T.n_str (by decide +kernel) rfl) pa_nil))) (by intro _; rfl))) (pw_or1 (pt_not (pt_truth (pe_c (ok_is_width T) hr (by decide) (by rfl) (pa_cons (pe_callB call_len_str (by rfl) T.n_len (by decide +kernel) (pa_cons (pv 0) pa_nil)) pa_nil)) (by intro _; rfl)))))) (pss_one (ps_ret pe_non))
    pss_nil)
    (pss_cons (ps_set (i := 1) sc_word_by_bits.nd rfl (.inl rfl) pe_int)
    (pss_cons (ps_for PassesOwn.never rfl (pi_str (pv 0)) (pg_name (i := 2) sc_word_by_bits.nd rfl (.inl rfl)) (pss_cons (ps_if (pt_cmpR op_notIn_seq (pv 2) (pe_tup (pa_cons pe_str (pa_cons pe_str pa_nil))) (by with_unfolding_all rfl)) (pss_one (ps_ret pe_non))
    pss_nil)
    (pss_one (ps_set (i := 1) sc_word_by_bits.nd rfl (.inl rfl) (pe_c (ok_joined_words T) hr (by decide) (by rfl) (pa_cons (pv 1) (pa_cons (pe_callTy call_int_str (by rfl) T.n_int (by decide +kernel) (pa_cons (pv 2) pa_nil)) (pa_cons pe_int pa_nil))))))))
    (pss_one (ps_ret (pv 1)))))))
    (fun vs H Q E h => vr_word_by_bits vs H Q E h)
theorem ok_L_bent (T : Tx K mg) : Cal P w K mg base 1 "_law_bent" sp_L_bent :=
  cal_mk (t := (rd_L_bent K)) T.d_L_bent sc_L_bent (fun _ _ _ _ _ _ us hl => match us, hl with | [_, _], _ => rfl) len_L_bent
    (fun f cdv A outer s H E hr => (pss_cons (ps_set (i := 2) sc_L_bent.nd rfl (.inl rfl) (pe_ix ix_str pe_str (pe_op op_mod (pe_op op_fdiv (pv 1) pe_int) pe_int) (fun _ _ => rfl)))
    (pss_cons (ps_set (i := 3) sc_L_bent.nd rfl (.inl rfl) (pe_op op_mod (pe_op op_fdiv (pv 1) pe_int) (pe_op op_add (pe_callB call_len_str (by rfl) T.n_len (by decide +kernel) (pa_cons (pv 0) pa_nil)) pe_int)))
    (pss_cons (ps_if (pt_cmpR op_eq (pe_op op_mod (pv 1) pe_int) pe_int (nomark _)) (pss_one (ps_ret (pe_op op_add_str (pe_op op_add_str (pe_slice sl_str (pv 0) po_none (po_some (pv 3))) (pv 2)) (pe_slice sl_str (pv 0) (po_some (pv 3)) po_none))))
    pss_nil)
    (pss_cons (ps_if (pt_cmpR op_eq (pe_op op_mod (pv 1) pe_int) pe_int (nomark _)) (pss_one (ps_ret (pe_op op_add_str (pe_slice sl_str (pv 0) po_none (po_some (pv 3))) (pe_slice sl_str (pv 0) (po_some (pe_op op_add (pv 3) pe_int)) po_none))))
    pss_nil)
    (pss_cons (ps_if (pt_cmpR op_eq (pe_op op_mod (pv 1) pe_int) pe_int (nomark _)) (pss_one (ps_ret (pe_op op_add_str (pe_op op_add_str (pe_slice sl_str (pv 0) po_none (po_some (pv 3))) (pv 2)) (pe_slice sl_str (pv 0) (po_some (pe_op op_add (pv 3) pe_int)) po_none))))
    pss_nil)
    (pss_cons (ps_if (pt_cmpR op_eq (pe_op op_mod (pv 1) pe_int) pe_int (nomark _)) (pss_one (ps_ret (pe_op op_mul_str (pv 0) pe_int)))
    pss_nil)
    (pss_cons (ps_if (pt_cmpR op_eq (pe_op op_mod (pv 1) pe_int) pe_int (nomark _)) (pss_one (ps_ret (pe_op op_add_str (pe_op op_mul_str pe_str (pe_op op_mod (pe_op op_fdiv (pv 1) pe_int) pe_int)) (pv 0))))
    pss_nil)
    (pss_one (ps_ret (pe_ifExp (pt_cmpR op_eq (pe_op op_mod (pv 1) pe_int) pe_int (nomark _)) (pe_ix ix_list (pe_lst (pa_cons pe_str (pa_cons (pe_op op_mul_str pe_str pe_int) (pa_cons (pe_op op_mul_str pe_str pe_int) (pa_cons (pe_op op_mul_str pe_str pe_int) (pa_cons pe_str (pa_cons pe_str (pa_cons pe_str (pa_cons pe_str pa_nil))))))))) (pe_op op_mod (pe_op op_fdiv (pv 1) pe_int) pe_int) (fun _ _ => rfl)) (pv 0))))))))))))
    (fun vs H Q E h => vr_L_bent vs H Q E h)
theorem ok_L_read (T : Tx K mg) : Cal P w K mg base 1 "_law_read" sp_L_read :=
  cal_mk (t := (rd_L_read K)) T.d_L_read sc_L_read (fun _ _ _ _ _ _ us hl => match us, hl with | [_], _ => rfl) len_L_read
    (fun f cdv A outer s H E hr => (pss_cons (ps_if (pt_not (pt_chain op_le op_le pe_int (pe_callB call_len_str (by rfl) T.n_len (by decide +kernel) (pa_cons (pv 0) pa_nil)) pe_int)) (pss_one (ps_ret pe_non))
    pss_nil)
    (pss_cons (ps_set (i := 1) sc_L_read.nd rfl (.inl rfl) pe_int)
    (pss_cons (ps_for PassesOwn.never rfl (pi_str (pv 0)) (pg_name (i := 2) sc_L_read.nd rfl (.inl rfl)) (pss_cons (ps_if (pt_cmpR op_notIn_seq (pv 2) (pe_tup (pa_cons pe_str (pa_cons pe_str pa_nil))) (by with_unfolding_all rfl)) (pss_one (ps_ret pe_non))
    pss_nil)
    (pss_one (ps_set (i := 1) sc_L_read.nd rfl (.inl rfl) (pe_op op_add (pe_op op_mul pe_int (pv 1)) (pe_callTy call_int1 (by rfl) T.n_int (by decide +kernel) (pa_cons (pe_cmpR op_eq (pv 2) pe_str (nomark _)) pa_nil)))))))
    (pss_one (ps_ret (pv 1)))))))
    (fun vs H Q E h => vr_L_read vs H Q E h)
theorem ok_L_right (T : Tx K mg) : Cal P w K mg base 4 "_law_right" sp_L_right :=
  cal_mk (t := (rd_L_right K)) T.d_L_right sc_L_right (fun _ _ _ _ _ _ us hl => match us, hl with | [_], _ => rfl) len_L_right
    (fun f cdv A outer s H E hr => (pss_cons (ps_set (i := 1) sc_L_right.nd rfl (.inl rfl) (pe_ix ix_list (pe_lst (pa_cons pe_int (pa_cons pe_int (pa_cons (pe_op op_add pe_int (pe_op op_mod (pe_op op_fdiv (pv 0) pe_int) pe_int)) pa_nil)))) (pe_op op_mod (pv 0) pe_int) (fun _ _ => rfl)))
    (pss_cons (ps_set (i := 2) sc_L_right.nd rfl (.inl rfl) (pe_c (ok_L_word T) hr (by decide) (by rfl) (pa_cons (pe_c (ok_L_mixed T) hr (by decide) (by rfl) (pa_cons (pv 0) (pa_cons pe_int pa_nil))) (pa_cons (pv 1) pa_nil))))
    (pss_cons (ps_set (i := 3) sc_L_right.nd rfl (.inl rfl) (pe_c (ok_L_mixed T) hr (by decide) (by rfl) (pa_cons (pv 0) (pa_cons pe_int pa_nil))))
    (pss_cons (ps_set (i := 4) sc_L_right.nd rfl (.inl rfl) pe_int)
    (pss_cons (ps_for PassesOwn.never rfl (pi_range1 (by rfl) T.n_range (pa_cons (pv 1) pa_nil)) (pg_name (i := 5) sc_L_right.nd rfl (.inl rfl)) (pss_one (ps_set (i := 4) sc_L_right.nd rfl (.inl rfl) (pe_op op_mul pe_int (pv 4)))))
    (pss_cons (ps_set (i := 6) sc_L_right.nd rfl (.inl rfl) (pe_ix ix_list (pe_lst (pa_cons (pv 2) (pa_cons (pv 4) (pa_cons (pe_op op_sub (pv 4) pe_int) (pa_cons (pe_un un_neg pe_int) (pa_cons (pe_op op_sub (pe_un un_neg pe_int) (pv 2)) (pa_cons (pe_op op_add (pv 4) (pe_op op_fdiv (pv 3) pe_int)) pa_nil))))))) (pe_op op_mod (pv 3) pe_int) (fun _ _ => rfl)))
    (Evl.pss_cut (ps_if (pt_not (pt_truth (pe_c (ok_L_truth T) hr (by decide) (by rfl) (pa_cons (pe_c (ok_is_word T) hr (by decide) (by rfl) (pa_cons (pv 6) (pa_cons (pv 1) pa_nil))) (pa_cons (pe_chain op_le op_lt pe_int (pv 6) (pv 4)) pa_nil))) (by intro _; rfl))) (pss_one (ps_ret pe_bl))
    pss_nil)
    (pss_cons (ps_set (i := 7) sc_L_right.nd rfl (.inl rfl) (pe_ix ix_list (pe_lst (pa_cons pe_int (pa_cons pe_int (pa_cons pe_int (pa_cons pe_int (pa_cons (pe_un un_neg pe_int) (pa_cons (pe_op op_mod (pe_op op_fdiv (pv 3) pe_int) pe_int) (pa_cons (pe_op op_sub pe_int (pe_op op_mod (pe_op op_fdiv (pv 3) pe_int) pe_int)) (pa_cons (pv 3) pa_nil))))))))) (pe_op op_mod (pe_op op_fdiv (pv 3) pe_int) pe_int) (fun _ _ => rfl)))
    (Evl.pss_cut (ps_if (pt_not (pt_truth (pe_c (ok_L_truth T) hr (by decide) (by rfl) (pa_cons (pe_c (ok_is_width T) hr (by decide) (by rfl) (pa_cons (pv 7) pa_nil)) (pa_cons (pe_chain op_le op_le pe_int (pv 7) pe_int) pa_nil))) (by intro _; rfl))) (pss_one (ps_ret pe_bl))
    pss_nil)
    (pss_cons (ps_set (i := 8) sc_L_right.nd rfl (.inl rfl) (pe_ix ix_list (pe_lst (pa_cons pe_bl (pa_cons pe_bl (pa_cons pe_non (pa_cons pe_str (pa_cons (pe_lst (pa_cons pe_int pa_nil)) (pa_cons (pe_tup (pa_cons pe_int pa_nil)) (pa_cons pe_dnewK (pa_cons pe_str (pa_cons (pe_lst pa_nil) (pa_cons (pe_lst (pa_cons pe_str pa_nil)) pa_nil))))))))))) (pe_op op_mod (pe_op op_fdiv (pv 3) pe_int) pe_int) (fun _ _ => rfl)))
    (pss_cons (ps_if (PW.pt (pw_or (pt_cmpR op_isnot_bl (pe_c (ok_is_word T) hr (by decide) (by rfl) (pa_cons (pv 8) (pa_cons (pv 1) pa_nil))) pe_bl (nomark _)) (pw_or1 (pt_cmpR op_isnot_bl (pe_c (ok_is_width T) hr (by decide) (by rfl) (pa_cons (pv 8) pa_nil)) pe_bl (nomark _))))) (pss_one (ps_ret pe_bl))
    pss_nil)
    (pss_cons (ps_set (i := 9) sc_L_right.nd rfl (.inl rfl) (pe_c (ok_bits_text T) hr (by decide) (by rfl) (pa_cons (pv 2) (pa_cons (pv 1) pa_nil))))
    (pss_cons (ps_if (PW.pt (pw_or (pt_not (pt_truth (pe_callB call_isi (by rfl) T.n_isinstance (by decide +kernel) (pa_cons (pv 9) (pa_cons (pe_bltn (by rfl) T.n_str (by decide +kernel) rfl) pa_nil))) (by intro _; rfl))) (pw_or1 (pt_cmpR op_ne (pv 9) (pe_c (ok_L_text T) hr (by decide) (by rfl) (pa_cons (pv 2) (pa_cons (pv 1) pa_nil))) (nomark _))))) (pss_one (ps_ret pe_bl))
    pss_nil)
    (pss_cons (ps_if (PW.pt (pw_or (pt_not (pt_truth (pe_c (ok_L_whole T) hr (by decide) (by rfl) (pa_cons (pe_c (ok_word_by_bits T) hr (by decide) (by rfl) (pa_cons (pv 9) pa_nil)) pa_nil)) (by intro _; rfl))) (pw_or1 (pt_cmpR op_ne (pe_c (ok_word_by_bits T) hr (by decide) (by rfl) (pa_cons (pv 9) pa_nil)) (pv 2) (nomark _))))) (pss_one (ps_ret pe_bl))
    pss_nil)
    (pss_cons (ps_set (i := 10) sc_L_right.nd rfl (.inl rfl) (pe_c (ok_L_bent T) hr (by decide) (by rfl) (pa_cons (pv 9) (pa_cons (pe_c (ok_L_mixed T) hr (by decide) (by rfl) (pa_cons (pv 0) (pa_cons pe_int pa_nil))) pa_nil))))
    (pss_cons (ps_set (i := 11) sc_L_right.nd rfl (.inl rfl) (pe_c (ok_L_read T) hr (by decide) (by rfl) (pa_cons (pv 10) pa_nil)))
    (pss_cons (ps_set (i := 12) sc_L_right.nd rfl (.inl rfl) (pe_c (ok_word_by_bits T) hr (by decide) (by rfl) (pa_cons (pv 10) pa_nil)))
    (Evl.pss_cut (ps_if (PW.pt (pw_or (PW.pt (pw_and (pt_cmp (pc_isN (pv 11))) (pw_and1 (pt_cmp (pc_notN (pv 12)))))) (pw_or1 (PW.pt (pw_and (pt_cmp (pc_notN (pv 11))) (pw_and1 (PW.pt (pw_or (pt_not (pt_truth (pe_c (ok_L_whole T) hr (by decide) (by rfl) (pa_cons (pv 12) pa_nil)) (by intro _; rfl))) (pw_or1 (pt_cmpR op_ne (pv 12) (pv 11) (nomark _))))))))))) (pss_one (ps_ret pe_bl))
    pss_nil)
    (pss_one (ps_ret (pe_orT (pe_callB call_isi (by rfl) T.n_isinstance (by decide +kernel) (pa_cons (pv 8) (pa_cons (pe_bltn (by rfl) T.n_str (by decide +kernel) rfl) pa_nil))) (pe_one (pe_cmp (pc_isN (pe_c (ok_word_by_bits T) hr (by decide) (by rfl) (pa_cons (pv 8) pa_nil)))))))))))))))))))))))))))
    (fun vs H Q E h => vr_L_right vs H Q E h)
theorem ok_law (T : Tx K mg) : Cal P w K mg base 5 "law" (sp_law K) :=
  cal_mk (t := (rd_law K)) T.d_law sc_law (fun _ _ _ _ _ _ us hl => match us, hl with | [_], _ => rfl) len_law
    (fun f cdv A outer s H E hr => (pss_cons (ps_for PassesOwn.never rfl (pi_list (pe_op op_cat (pe_slice sl_list (pv 0) po_none (po_some pe_int)) (pe_lst (pa_cons pe_int pa_nil)))) (pg_name (i := 1) sc_law.nd rfl (.inl rfl)) (pss_one (ps_if (pt_not (pt_truth (pe_c (ok_L_right T) hr (by decide) (by rfl) (pa_cons (pe_op op_mod (pv 1) pe_int) pa_nil)) (by intro _; rfl))) (pss_one (ps_ret pe_bl))
    pss_nil)))
    (pss_one (ps_ret pe_bl))))
    (fun vs H Q E h => vr_law vs H Q E h)
end
def dd_L_word : He.DefD := ⟨("_law_word", none), "_law_word", "_law_word", defArgs s_L_word, defBody s_L_word, defScope s_L_word, [], []⟩
def dd_L_mixed : He.DefD := ⟨("_law_mixed", none), "_law_mixed", "_law_mixed", defArgs s_L_mixed, defBody s_L_mixed, defScope s_L_mixed, [], []⟩
def dd_L_truth : He.DefD := ⟨("_law_truth", none), "_law_truth", "_law_truth", defArgs s_L_truth, defBody s_L_truth, defScope s_L_truth, [], []⟩
def dd_is_whole : He.DefD := ⟨("is_whole", none), "is_whole", "is_whole", defArgs s_is_whole, defBody s_is_whole, defScope s_is_whole, [], []⟩
def dd_top_of : He.DefD := ⟨("top_of", none), "top_of", "top_of", defArgs s_top_of, defBody s_top_of, defScope s_top_of, [], []⟩
def dd_is_word : He.DefD := ⟨("is_word", none), "is_word", "is_word", defArgs s_is_word, defBody s_is_word, defScope s_is_word, [], []⟩
def dd_is_width : He.DefD := ⟨("is_width", none), "is_width", "is_width", defArgs s_is_width, defBody s_is_width, defScope s_is_width, [], []⟩
def dd_bits_text : He.DefD := ⟨("bits_text", none), "bits_text", "bits_text", defArgs s_bits_text, defBody s_bits_text, defScope s_bits_text, [], []⟩
def dd_L_text : He.DefD := ⟨("_law_text", none), "_law_text", "_law_text", defArgs s_L_text, defBody s_L_text, defScope s_L_text, [], []⟩
def dd_L_whole : He.DefD := ⟨("_law_whole", none), "_law_whole", "_law_whole", defArgs s_L_whole, defBody s_L_whole, defScope s_L_whole, [], []⟩
def dd_joined_words : He.DefD := ⟨("joined_words", none), "joined_words", "joined_words", defArgs s_joined_words, defBody s_joined_words, defScope s_joined_words, [], []⟩
def dd_word_by_bits : He.DefD := ⟨("word_by_bits", none), "word_by_bits", "word_by_bits", defArgs s_word_by_bits, defBody s_word_by_bits, defScope s_word_by_bits, [], []⟩
def dd_L_bent : He.DefD := ⟨("_law_bent", none), "_law_bent", "_law_bent", defArgs s_L_bent, defBody s_L_bent, defScope s_L_bent, [], []⟩
def dd_L_read : He.DefD := ⟨("_law_read", none), "_law_read", "_law_read", defArgs s_L_read, defBody s_L_read, defScope s_L_read, [], []⟩
def dd_L_right : He.DefD := ⟨("_law_right", none), "_law_right", "_law_right", defArgs s_L_right, defBody s_L_right, defScope s_L_right, [], []⟩
def dd_law : He.DefD := ⟨("law", none), "law", "law", defArgs s_law, defBody s_law, defScope s_law, [], []⟩
def fnD : List He.DefD := [dd_L_word, dd_L_mixed, dd_L_truth, dd_is_whole, dd_top_of, dd_is_word, dd_is_width, dd_bits_text, dd_L_text, dd_L_whole, dd_joined_words, dd_word_by_bits, dd_L_bent, dd_L_read, dd_L_right, dd_law]
def faD : List He.Fa := [.glo "_law_word", .glo "_law_mixed", .glo "_law_truth", .glo "is_whole", .glo "top_of", .glo "is_word", .glo "is_width", .glo "bits_text", .glo "_law_text", .glo "_law_whole", .glo "joined_words", .glo "word_by_bits", .glo "_law_bent", .glo "_law_read", .glo "_law_right", .glo "law", .free "bool", .free "int", .free "isinstance", .free "len", .free "range", .free "reversed", .free "str", .int "MOST_WIDTH" 64]
def exD : PySem.W.Frag → Bool := fun K => true
theorem tx_of {K : PySem.W.Frag} {h : Heap} {mg : Str → Option Value} (X : K.In h) (G : h.Ns mainGlobals mg) (c : He.SaysD faD fnD K) (ex : exD K = true) : Tx K mg where
  d_L_word := by
    obtain ⟨fd, F⟩ := c.def_ 0 (d := dd_L_word) rfl
    exact ⟨_, fd, F, He.glo_ok X G (c.fact 0 (f := .glo "_law_word") rfl)⟩
  d_L_mixed := by
    obtain ⟨fd, F⟩ := c.def_ 1 (d := dd_L_mixed) rfl
    exact ⟨_, fd, F, He.glo_ok X G (c.fact 1 (f := .glo "_law_mixed") rfl)⟩
  d_L_truth := by
    obtain ⟨fd, F⟩ := c.def_ 2 (d := dd_L_truth) rfl
    exact ⟨_, fd, F, He.glo_ok X G (c.fact 2 (f := .glo "_law_truth") rfl)⟩
  d_is_whole := by
    obtain ⟨fd, F⟩ := c.def_ 3 (d := dd_is_whole) rfl
    exact ⟨_, fd, F, He.glo_ok X G (c.fact 3 (f := .glo "is_whole") rfl)⟩
  d_top_of := by
    obtain ⟨fd, F⟩ := c.def_ 4 (d := dd_top_of) rfl
    exact ⟨_, fd, F, He.glo_ok X G (c.fact 4 (f := .glo "top_of") rfl)⟩
  d_is_word := by
    obtain ⟨fd, F⟩ := c.def_ 5 (d := dd_is_word) rfl
    exact ⟨_, fd, F, He.glo_ok X G (c.fact 5 (f := .glo "is_word") rfl)⟩
  d_is_width := by
    obtain ⟨fd, F⟩ := c.def_ 6 (d := dd_is_width) rfl
    exact ⟨_, fd, F, He.glo_ok X G (c.fact 6 (f := .glo "is_width") rfl)⟩
  d_bits_text := by
    obtain ⟨fd, F⟩ := c.def_ 7 (d := dd_bits_text) rfl
    exact ⟨_, fd, F, He.glo_ok X G (c.fact 7 (f := .glo "bits_text") rfl)⟩
  d_L_text := by
    obtain ⟨fd, F⟩ := c.def_ 8 (d := dd_L_text) rfl
    exact ⟨_, fd, F, He.glo_ok X G (c.fact 8 (f := .glo "_law_text") rfl)⟩
  d_L_whole := by
    obtain ⟨fd, F⟩ := c.def_ 9 (d := dd_L_whole) rfl
    exact ⟨_, fd, F, He.glo_ok X G (c.fact 9 (f := .glo "_law_whole") rfl)⟩
  d_joined_words := by
    obtain ⟨fd, F⟩ := c.def_ 10 (d := dd_joined_words) rfl
    exact ⟨_, fd, F, He.glo_ok X G (c.fact 10 (f := .glo "joined_words") rfl)⟩
  d_word_by_bits := by
    obtain ⟨fd, F⟩ := c.def_ 11 (d := dd_word_by_bits) rfl
    exact ⟨_, fd, F, He.glo_ok X G (c.fact 11 (f := .glo "word_by_bits") rfl)⟩
  d_L_bent := by
    obtain ⟨fd, F⟩ := c.def_ 12 (d := dd_L_bent) rfl
    exact ⟨_, fd, F, He.glo_ok X G (c.fact 12 (f := .glo "_law_bent") rfl)⟩
  d_L_read := by
    obtain ⟨fd, F⟩ := c.def_ 13 (d := dd_L_read) rfl
    exact ⟨_, fd, F, He.glo_ok X G (c.fact 13 (f := .glo "_law_read") rfl)⟩
  d_L_right := by
    obtain ⟨fd, F⟩ := c.def_ 14 (d := dd_L_right) rfl
    exact ⟨_, fd, F, He.glo_ok X G (c.fact 14 (f := .glo "_law_right") rfl)⟩
  d_law := by
    obtain ⟨fd, F⟩ := c.def_ 15 (d := dd_law) rfl
    exact ⟨_, fd, F, He.glo_ok X G (c.fact 15 (f := .glo "law") rfl)⟩
  n_bool := He.free_ok X G (c.fact 16 (f := .free "bool") rfl)
  n_int := He.free_ok X G (c.fact 17 (f := .free "int") rfl)
  n_isinstance := He.free_ok X G (c.fact 18 (f := .free "isinstance") rfl)
  n_len := He.free_ok X G (c.fact 19 (f := .free "len") rfl)
  n_range := He.free_ok X G (c.fact 20 (f := .free "range") rfl)
  n_reversed := He.free_ok X G (c.fact 21 (f := .free "reversed") rfl)
  n_str := He.free_ok X G (c.fact 22 (f := .free "str") rfl)
  c_MOST_WIDTH := by
    obtain ⟨t, e⟩ := He.int_ok X G (c.fact 23 (f := .int "MOST_WIDTH" 64) rfl)
    exact ⟨_, e, t, rfl⟩
abbrev R : PySem.W.OpenRow := PySem.W.OpenLaw.row PySem.Challenge.rw_wireyard_k02_words_told_by_signs
def loose0 : List PySem.Str := ["MOST_WIDTH", "is_whole", "is_width", "is_word", "top_of", "joined_words", "bits_text", "word_by_bits", "_law_mixed", "_law_whole", "_law_word", "_law_text", "_law_read", "_law_bent", "_law_truth", "_law_right"]
def loose : List PySem.Str := loose0
abbrev hk : PySem.W.Hook := Z.hookZ faD fnD exD 4
def ob (s : PySem.W.SharedT) : He.AlD × Bool := Z.lookZ faD fnD exD 4 (HandSHeadRun.getT s)
theorem ob_eq (s : PySem.W.SharedT) : ob s = hk.obs s.abs := Z.lookZ_eq (HandSHeadRun.getT_eq s)
theorem run (w : World) : HandSHeadRun.RunEq R (PySem.W.view R.prog [18]) hk ob 4000 loose w := by
  intro os
  kernel_rfl
theorem fn_law {P : Program} {w : World} {K : PySem.W.Frag} {mg : Str → Option Value} {base : Heap} {f : Addr} {fd : FuncData} (F : FunD K "law" "law" (defArgs s_law) (defBody s_law) (defScope s_law) [] [] f fd) (T : Tx K mg) : FnOk P w K mg base CX0 5 f fd ["_law_script"] (sp_law K) :=
  F.ok sc_law len_law fun cdv A outer s H vs Q E hr h => ⟨(rd_law K), PSs.nox ((pss_cons (ps_for PassesOwn.never rfl (pi_list (pe_op op_cat (pe_slice sl_list (pv 0) po_none (po_some pe_int)) (pe_lst (pa_cons pe_int pa_nil)))) (pg_name (i := 1) sc_law.nd rfl (.inl rfl)) (pss_one (ps_if (pt_not (pt_truth (pe_c (ok_L_right T) hr (by decide) (by rfl) (pa_cons (pe_op op_mod (pv 1) pe_int) pa_nil)) (by intro _; rfl))) (pss_one (ps_ret pe_bl))
    pss_nil)))
    (pss_one (ps_ret pe_bl)))), vr_law vs H Q E h⟩
theorem facts {P : Program} {w : World} {K : PySem.W.Frag} {h : Heap} {mg : Str → Option Value} {f : Addr} (X : K.In h) (G : h.Ns mainGlobals mg) (hfa : mg ("law" : Str) = some (.ref f)) (c : He.SaysD faD fnD K) (x : exD K = true) :
    ∃ fd : FuncData, (∀ (s : Shared) (v : Value), BindsTo s fd ⟨[v], []⟩ [("_law_script", v)]) ∧ ∀ base : Heap, K.In base → base.Ns mainGlobals mg → FnOk P w K mg base CX0 5 f fd ["_law_script"] (sp_law K) := by
  have T : Tx K mg := tx_of X G c x
  obtain ⟨fd, F⟩ := c.def_ 15 (d := dd_law) rfl
  have e := hfa.symm.trans (He.glo_ok X G (c.fact 15 (f := .glo "law") rfl))
  cases e
  have b := FunD.bindsA (ps := ["_law_script"]) F fun _ _ _ _ _ _ us hl => match us, hl with | [_], _ => rfl
  refine ⟨fd, fun s v => b s [v] rfl, fun base _ _ => ?_⟩
  exact fn_law F T
end K02
open PySem PySem.W PySem.Calls PyProof.Rows
set_option maxHeartbeats 0 in
theorem PySem.Challenge.cw_wireyard_k02_words_told_by_signs_holds : PySem.Challenge.rw_wireyard_k02_words_told_by_signs.Holds := by
  w_on; o_law
  refine HandSHeadRun.head_any (r := K02.R) (q := view K02.R.prog [18]) (H := K02.hk) (ob := K02.ob) (M := 4000) (loose := K02.loose) (d := HandSHeadRun.topDef K02.R.prog 18) (kwd := []) K02.ob_eq
    (by kernel_rfl) (fun s => by kernel_rfl) K02.run (by kernel_rfl) (by kernel_rfl) (by kernel_rfl) (by rfl) (by first | assumption | decide +kernel) (by decide +kernel) ⟨rfl, rfl, rfl, rfl, rfl, by decide +kernel⟩ ?hw ?hc
  case hw => w_witness2
  case hc =>
    refine L2.walk_ofE (l := PySem.Challenge.rw_wireyard_k02_words_told_by_signs) (n := 63) (k := 5) (x := "_law_script") (CX := L2.CX0) rfl (by decide) (by kernel_rfl) ⟨rfl, by decide, by decide⟩ ?F (fun _ _ _ _ z => z)
    intro w mg fa h Y G hmg0
    obtain ⟨K, KX, c, x⟩ := Y
    have hmg : mg ("law" : PySem.Str) = some (.ref fa) := by
      have e : (HandSHeadRun.topDef K02.R.prog 18).name = ("law" : PySem.Str) := by kernel_rfl
      rw [← e]
      exact hmg0
    obtain ⟨fd, hb, hF⟩ := K02.facts (P := (PySem.Challenge.rw_wireyard_k02_words_told_by_signs).prog) (w := w) KX G hmg c x
    exact ⟨K, fd, K02.sp_law K, KX, hb, fun H a ns hl _ hS => ⟨a, ns, rfl, hS, hl, fun _ _ => rfl⟩, hF⟩
