import PyProof.Rows.All
import Wide.All
import OpenK.AllK
import Wide.FinOn
import Lean
import KE.KStateDown
import HandS.ForMost
import HandS.Walk
import HandS.Evl
import HandS.Flow
import HandS.Style
import HandS.WideBits
import HandS.Defaults
import HandS.IsInst
import HandS.More
import HandS.Replace
import HandS.TupLe
import HandS.RevRange
import HandS.Conv
import HandS.TupAny
import KE.IntTextLaws
import HandS.Head0
import HandS.Head1
import HandS.Head2
import HandS.HeadEnd
import HandS.HeadHook1
import HandS.HeadHook2
import PySem.Challenge.RW_wireyard_k01_words_of_bits
set_option Elab.async false
set_option linter.all false
set_option maxRecDepth 100000
set_option maxHeartbeats 4000000
/-! Z: my own short steps over the hand layer: one lemma a reading, in the order in which the code runs; heaps are letters, joined by Ex. -/
namespace Z
open PySem PySem.Spec PyProof.Rows L2
open Evl (Ex ex_l ex_t ex_rd sq_of st_of fresh_back)

/-! ### short names of readings -/
abbrev rAddI : R2 := rI0 fun i j => .int (i + j)
abbrev rSubI : R2 := rI0 fun i j => .int (i - j)
abbrev rMulI : R2 := rI CMul fun i j => .int (i * j)
abbrev rMulX : R2 := rI CMulX fun i j => .int (i * j)
abbrev rDivI : R2 := rI CDiv fun i j => .int (i / j)
abbrev rDivW : R2 := rI CDivW fun i j => .int (i / j)
abbrev rIndexS : V → List V → Hp → VK → Prop := fun x xs H Q => ∃ a b i rest, x = .str a ∧ xs = [.str b] ∧ Builtin.Str.occurrences a b 0 a.length 1 = i :: rest ∧ Q (.int (i : Nat)) H
abbrev rModI : R2 := rI (fun _ j => 0 < j) fun i j => .int (i % j)
abbrev rPowI : R2 := rI CPow fun i j => .int (i ^ j.toNat)
abbrev rShlI : R2 := rI CShl fun i j => .int (i * 2 ^ j.toNat)
abbrev rShrI : R2 := rI (fun _ j => 0 ≤ j) fun i j => .int (i / 2 ^ j.toNat)
abbrev rAndI : R2 := rI0 fun i j => .int (Builtin.bitAnd i j)
abbrev rOrI : R2 := rI0 fun i j => .int (Builtin.bitOr i j)
abbrev rXorI : R2 := rI0 fun i j => .int (Builtin.bitXor i j)
abbrev rLtI : R2 := rI0 fun i j => .bl (decide (i < j))
abbrev rLeI : R2 := rI0 fun i j => .bl (decide (i ≤ j))
abbrev rGtI : R2 := rI0 fun i j => .bl (decide (j < i))
abbrev rGeI : R2 := rI0 fun i j => .bl (decide (j ≤ i))
abbrev rNegI : V → Hp → VK → Prop := rU fun i => .int (-i)
def rAddStr : R2 := fun x y H Q => ∃ i j, x = .str i ∧ y = .str j ∧ i.length + j.length ≤ sizeLine ∧ Q (.str (i ++ j)) H
def rInSgn : R2 := fun x y H Q => ∃ (c : Nat) (z : Str), x = .str ⟨#[c]⟩ ∧ y = .str z ∧ Q (.bl (decide (c ∈ z.cps.toList))) H
def rNinSgn : R2 := fun x y H Q => ∃ (c : Nat) (z : Str), x = .str ⟨#[c]⟩ ∧ y = .str z ∧ Q (.bl (!decide (c ∈ z.cps.toList))) H
abbrev cLenSeq (K : PySem.W.Frag) : List V → Hp → VK → Prop := fun xs H Q => ∃ p ys, xs = [.ref p] ∧ (SqL K H p ys ∨ SqT K H p ys) ∧ Q (.int ys.length) H
abbrev cLenStr : List V → Hp → VK → Prop := fun xs H Q => ∃ z, xs = [.str z] ∧ z.length ≤ sizeLine ∧ Q (.int z.length) H
abbrev cInt1 : List V → Hp → VK → Prop := fun xs H Q => (∃ i, xs = [.int i] ∧ Q (.int i) H) ∨ ∃ k, xs = [.bl k] ∧ Q (.int (if k then 1 else 0)) H
abbrev cMax2 : List V → Hp → VK → Prop := fun xs H Q => ∃ i j, xs = [.int i, .int j] ∧ Q (.int (if j > i then j else i)) H
abbrev cMin2 : List V → Hp → VK → Prop := fun xs H Q => ∃ i j, xs = [.int i, .int j] ∧ Q (.int (if j < i then j else i)) H
abbrev rIsBl : R2 := fun x y H Q => ∃ a b, x = .bl a ∧ y = .bl b ∧ Q (.bl (decide (a = b))) H
abbrev rNotBl : R2 := fun x y H Q => ∃ a b, x = .bl a ∧ y = .bl b ∧ Q (.bl (!decide (a = b))) H
def rMulStr : R2 := fun x y H Q => ∃ (s : Str) (n : Int), x = .str s ∧ y = .int n ∧ MulOk s n ∧ Q (.str (Txt.mul s n)) H
theorem op_mul_str {X : Cx} : OpR X (binaryOp .Mult) rMulStr := fun pins s σ H x y v u Q I rx ry h => by
  obtain ⟨z, n, rfl, rfl, hz, q⟩ := h
  obtain ⟨t1, rfl⟩ := rx
  obtain ⟨t2, rfl⟩ := ry
  exact SB.mul hz fun t' k => ⟨.str (Txt.mul z n), H, I.tok _, ⟨_, rfl⟩, q⟩
abbrev rJoin (K : PySem.W.Frag) : V → List V → Hp → VK → Prop := fun x xs H Q => ∃ a p, ∃ ys : List Str, x = .str a ∧ xs = [.ref p] ∧ (SqL K H p (ys.map V.str) ∨ SqT K H p (ys.map V.str)) ∧ (ys.map (·.length)).sum + ys.length * a.length ≤ 16777216 ∧ Q (.str (Txt.join a ys)) H
abbrev cStrInt : List V → Hp → VK → Prop := fun xs H Q => ∃ i : Int, xs = [.int i] ∧ i.natAbs.log2 < 1920 ∧ Q (.str (toString i)) H
abbrev cIntStr : List V → Hp → VK → Prop := fun xs H Q => ∃ a n, xs = [.str a] ∧ PySem.intText? a = some n ∧ a.length ≤ 640 ∧ Q (.int n) H
abbrev rPartition : V → List V → Hp → VK → Prop := fun x xs H Q => ∃ a b, x = .str a ∧ xs = [.str b] ∧ (b.length == 0) = false ∧ a.length ≤ sizeLine ∧ ∀ p, H p = none → Q (.ref p) (upd H p (.tup [.str (Txt.partition a b).1, .str (Txt.partition a b).2.1, .str (Txt.partition a b).2.2]))
abbrev rSplit : V → List V → Hp → VK → Prop := fun x xs H Q => ∃ a b, x = .str a ∧ xs = [.str b] ∧ (b.length == 0) = false ∧ a.length + 2 ≤ sizeLine ∧ ∀ p, H p = none → Q (.ref p) (upd H p (.lst ((Txt.split a b).map V.str)))
abbrev rUpper : V → List V → Hp → VK → Prop := fun x xs H Q => ∃ a, x = .str a ∧ xs = [] ∧ a.length ≤ 5592405 ∧ Q (.str (Txt.upper a)) H
abbrev tTru (K : PySem.W.Frag) (ta : TE) : TT := fun σ H Q => ta σ H fun x H' => ∃ k, TruV K x H' k ∧ Q k H'

/-! ### a def of the module and its promise -/
def DX (K : PySem.W.Frag) (mg : Str → Option Value) (x : Str) (st : Stmt) : Prop := ∃ f fd, FunD K x x (defArgs st) (defBody st) (defScope st) [] [] f fd ∧ mg x = some (.ref f)
structure Cal (P : Program) (w : World) (K : PySem.W.Frag) (mg : Str → Option Value) (base : Heap) (k : Nat) (x : Str) (sp : Sp) : Prop where
  ex : ∃ (f : Addr) (fd : FuncData) (ps : List Str), FnOk P w K mg base CX0 k f fd ps sp ∧ mg x = some (.ref f) ∧ PySem.W.keepIn K (.ref f) = true ∧ Binds K fd ps []
section
variable {X : Cx} {k j : Nat} {x : Str} {sp : Sp} {p pos : Pos} {e : Expr} {es : List Expr} {t : TA}
theorem pe_c (c : Cal X.prog X.w X.K X.mg X.base k x sp) (hr : Room j X.A) (hk : k ≤ j) (hg : Gl X x) (ha : PA X (e :: es) t)
    (hdb : (x == ("__debug__" : Str)) = false := by decide) (he : starEach (e :: es) X.env = (false, eval e X.env) :: starEach es X.env := by rfl) (hpl : (backTo pos (starEach es X.env)).any (·.1) = false := by rfl) :
    PE X (.Call (.Name x p) (e :: es) [] pos) (tCall sp [] E0 t) := by
  obtain ⟨f, fd, ps, F, hm, kp, b⟩ := c.ex
  exact pe_call F (hr.mono hk) hg hm kp b .nil pass0 ha hdb he hpl
theorem pe_c0 (c : Cal X.prog X.w X.K X.mg X.base k x sp) (hr : Room j X.A) (hk : k ≤ j) (hg : Gl X x) (hdb : (x == ("__debug__" : Str)) = false := by decide) :
    PE X (.Call (.Name x p) [] [] pos) (tCall sp [] E0 tNil) := by
  obtain ⟨f, fd, ps, F, hm, kp, b⟩ := c.ex
  exact pe_call0 F (hr.mono hk) hg hm kp b .nil pass0 hdb
/-- a name of the module, by its value -/
theorem pe_gc {v : V} (hg : Gl X x) (h : ∃ u, X.mg x = some u ∧ RelV v u) (hd : (x == ("__debug__" : Str)) = false := by decide) : PE X (.Name x pos) (tC v) := by
  obtain ⟨u, hm, r⟩ := h
  exact pe_glob hg hm r hd
end
section
variable {P : Program} {w : World} {K : PySem.W.Frag} {mg : Str → Option Value} {base : Heap}
theorem cal_mk {x : Str} {st : Stmt} {N ps : List Str} {k : Nat} {sp : Sp} {t : TS} (D : DX K mg x st) (S : FnScope N ps (defScope st))
    (hb : ∀ (kV doc pm : Value) (an : Option Addr) (cdv ct : Value) (us : List Value), us.length = ps.length → bindArgs (PySem.W.fnOf x x (defArgs st) (defBody st) (defScope st) .none kV doc pm an cdv ct) ⟨us, []⟩ = pure (ps.zip us))
    (len : ∀ vs H Q E, sp vs H Q E → vs.length = ps.length)
    (hd : ∀ (f : Addr) (cdv : Value) (A : Around) (outer : List Env) (s : Shared) (H : Hp) (E : XK), Room k (A.deeper (envOfC x (defScope st) s.heap.objs.size f cdv)) → PSs (cxOf CX0 P w K mg base N x (defScope st) f cdv A outer s H E).nox (defBody st) t)
    (hv : ∀ vs H Q E, sp vs H Q E → t { nx := fun _ H' => Q .non H', rt := Q } (start N vs) H) : Cal P w K mg base (k + 1) x sp := by
  obtain ⟨f, fd, F, hm⟩ := D
  exact ⟨f, fd, ps, F.ok S len fun cdv A outer s H vs Q E hr h => ⟨t, PSs.nox (hd f cdv A outer s H E hr), hv vs H Q E h⟩, hm, F.kp, F.bindsN hb⟩
end
theorem hu64 {A : Around} {k : Nat} (hr : Room k A) : A.units + 64 < cLine := by have := hr.un; omega

/-! ### heaps: the facts of an elder one -/
section
variable {K : PySem.W.Frag} {σ : L2.St} {H H' : Hp} {Q : VK} {QB : Bool → Hp → Prop} {QA : List V → Hp → Prop} {QO : Option Int → Hp → Prop} {D : Ends} {v x y : V} {i j : Int} {a p : Addr} {xs : List V} {s z : Str} {b : Bool}
variable {ta tb te tc : TE} {t u : TT} {tl th : TO} {tr : TA} {ts tu : TS} {r : R2} {g : TG}

theorem szl {n : Nat} (h : n ≤ 1000) : n ≤ sizeLine := Nat.le_trans h (by decide)
theorem szlt {n : Nat} (h : n ≤ 1000) : n < sizeLine := Nat.lt_of_le_of_lt h (by decide)
/-! ### expressions -/
theorem z_var {n : Nat} (h : σ[n]? = some (some v)) (q : Q v H) : tVar n σ H Q := ⟨v, h, q⟩
theorem z_c (q : Q v H) : tC v σ H Q := q
theorem z_op (q : ta σ H fun x H1 => tb σ H1 fun y H2 => r x y H2 Q) : tOp r ta tb σ H Q := q
theorem z_un {r : V → Hp → VK → Prop} (q : ta σ H fun x H1 => r x H1 Q) : tUn r ta σ H Q := q
theorem z_i0 {f : Int → Int → V} (q : Q (f i j) H) : rI0 f (.int i) (.int j) H Q := ⟨i, j, rfl, rfl, q⟩
theorem z_i {C : Int → Int → Prop} {f : Int → Int → V} (h : C i j) (q : Q (f i j) H) : rI C f (.int i) (.int j) H Q := ⟨i, j, rfl, rfl, h, q⟩
theorem z_u {f : Int → V} (q : Q (f i) H) : rU f (.int i) H Q := ⟨i, rfl, q⟩
theorem z_eq (h : scal x y = true) (q : Q (.bl (decide (x = y))) H) : rEq x y H Q := ⟨h, q⟩
theorem z_ne (h : scal x y = true) (q : Q (.bl (!decide (x = y))) H) : rNe x y H Q := ⟨h, q⟩
theorem z_addS (h : s.length + z.length ≤ sizeLine) (q : Q (.str (s ++ z)) H) : rAddStr (.str s) (.str z) H Q := ⟨s, z, rfl, rfl, h, q⟩
theorem z_inS {c : Nat} (q : Q (.bl (decide (c ∈ z.cps.toList))) H) : rInSgn (.str ⟨#[c]⟩) (.str z) H Q := ⟨c, z, rfl, rfl, q⟩
theorem z_ninS {c : Nat} (q : Q (.bl (!decide (c ∈ z.cps.toList))) H) : rNinSgn (.str ⟨#[c]⟩) (.str z) H Q := ⟨c, z, rfl, rfl, q⟩
theorem z_if (q : t σ H fun c H1 => if c = true then ta σ H1 Q else tb σ H1 Q) : tIf t ta tb σ H Q := q
theorem z_andT (q : ta σ H fun x H1 => ∃ k, TruV K x H1 k ∧ if k = true then tb σ H1 Q else Q x H1) : tAndT K ta tb σ H Q := q
theorem z_orT (q : ta σ H fun x H1 => ∃ k, TruV K x H1 k ∧ if k = true then Q x H1 else tb σ H1 Q) : tOrT K ta tb σ H Q := q
theorem z_notT (q : ta σ H fun x H1 => ∃ k, TruV K x H1 k ∧ Q (.bl (!k)) H1) : tNotT K ta σ H Q := q
theorem z_isN (q : ta σ H fun x H1 => Q (.bl (decide (x = .non))) H1) : tIsN ta σ H Q := q
theorem z_notN (q : ta σ H fun x H1 => Q (.bl (!decide (x = .non))) H1) : tNotN ta σ H Q := q
theorem z_nil (q : QA [] H) : tNil σ H QA := q
theorem z_cons (q : te σ H fun x H1 => tr σ H1 fun xs H2 => QA (x :: xs) H2) : tCons te tr σ H QA := q
theorem z_call {sp : Sp} {E : XK} (q : tr σ H fun vs H1 => sp (vs ++ []) H1 Q E) : tCall sp [] E tr σ H Q := q
theorem z_cb {r : List V → Hp → VK → Prop} (q : tr σ H fun vs H1 => r vs H1 Q) : tCB r tr σ H Q := q
theorem z_lst (q : tr σ H fun xs H1 => xs.length ≤ sizeLine ∧ ∀ p, H1 p = none → Q (.ref p) (upd H1 p (.lst xs))) : tLst tr σ H Q := q
theorem z_tup (q : tr σ H fun xs H1 => xs.length ≤ sizeLine ∧ ∀ p, H1 p = none → Q (.ref p) (upd H1 p (.tup xs))) : tTup tr σ H Q := q
theorem z_ixL {l : Addr} (h : SqL K H l xs) (e : atI xs i = some v) (q : Q v H) : rIxL K (.ref l) (.int i) H Q := ⟨l, xs, i, v, rfl, rfl, h, e, q⟩
theorem z_ixT {l : Addr} (h : SqT K H l xs) (e : atI xs i = some v) (q : Q v H) : rIxT K (.ref l) (.int i) H Q := ⟨l, xs, i, v, rfl, rfl, h, e, q⟩
theorem z_ixS {c : Nat} (h : z.length ≤ sizeLine) (e : atI z.cps.toList i = some c) (q : Q (.str ⟨#[c]⟩) H) : rIxS (.str z) (.int i) H Q := ⟨z, i, c, rfl, rfl, h, e, q⟩
theorem z_cat {l m : Addr} {ys : List V} (h : H l = some (.lst xs)) (h2 : H m = some (.lst ys)) (hz : xs.length + ys.length ≤ sizeLine) (q : ∀ p, H p = none → Q (.ref p) (upd H p (.lst (xs ++ ys)))) : rCat (.ref l) (.ref m) H Q := ⟨l, m, xs, ys, rfl, rfl, h, h2, hz, q⟩
theorem z_rep {l : Addr} {k : Int} (h : H l = some (.lst xs)) (h1 : -(2 ^ 63) ≤ k) (h2 : k < 2 ^ 63) (hz : xs.length * k.toNat ≤ sizeLine) (q : ∀ p, H p = none → Q (.ref p) (upd H p (.lst (List.replicate k.toNat xs).flatten))) : rRep (.ref l) (.int k) H Q := ⟨l, k, xs, rfl, rfl, h, h1, h2, hz, q⟩
theorem z_inL {l : Addr} {neg : Bool} (h : SqL K H l xs) (hx : flatV x = true) (hs : xs.all flatV = true) (q : Q (.bl (if neg then !inV x xs else inV x xs)) H) : rIn K neg x (.ref l) H Q := ⟨l, xs, rfl, .inl h, hx, hs, q⟩
theorem z_inT {l : Addr} {neg : Bool} (h : SqT K H l xs) (hx : flatV x = true) (hs : xs.all flatV = true) (q : Q (.bl (if neg then !inV x xs else inV x xs)) H) : rIn K neg x (.ref l) H Q := ⟨l, xs, rfl, .inr h, hx, hs, q⟩
theorem z_lenL {l : Addr} (h : SqL K H l xs) (q : Q (.int xs.length) H) : cLenSeq K [.ref l] H Q := ⟨l, xs, rfl, .inl h, q⟩
theorem z_lenT {l : Addr} (h : SqT K H l xs) (q : Q (.int xs.length) H) : cLenSeq K [.ref l] H Q := ⟨l, xs, rfl, .inr h, q⟩
theorem z_lenS (h : z.length ≤ sizeLine) (q : Q (.int z.length) H) : cLenStr [.str z] H Q := ⟨z, rfl, h, q⟩
theorem z_int1 (q : Q (.int i) H) : cInt1 [.int i] H Q := .inl ⟨i, rfl, q⟩
theorem z_intb (q : Q (.int (if b then 1 else 0)) H) : cInt1 [.bl b] H Q := .inr ⟨b, rfl, q⟩
theorem z_max2 (q : Q (.int (if j > i then j else i)) H) : cMax2 [.int i, .int j] H Q := ⟨i, j, rfl, q⟩
theorem z_min2 (q : Q (.int (if j < i then j else i)) H) : cMin2 [.int i, .int j] H Q := ⟨i, j, rfl, q⟩
theorem z_revL (q : te σ H fun x H1 => ∃ a xs, x = .ref a ∧ SqL K H1 a xs ∧ ∀ p, H1 p = none → Q (.ref p) (upd H1 p (.lst xs.reverse))) : tRevL K te σ H Q := q
theorem z_revL1 (h : SqL K H a xs) (q : ∀ p, H p = none → Q (.ref p) (upd H p (.lst xs.reverse))) : ∃ a' xs', V.ref a = .ref a' ∧ SqL K H a' xs' ∧ ∀ p, H p = none → Q (.ref p) (upd H p (.lst xs'.reverse)) := ⟨a, xs, rfl, h, q⟩
theorem z_isi {T U : String} (h : TyX K H x (.type T)) (e : PySem.W.kitOne K (.type T) (.type U) = some b) (q : Q (.bl b) H) : rIsi K [x, .ty U] H Q := ⟨x, _, _, _, b, rfl, .ty U, h, e, q⟩
theorem z_dnew (q : ∀ p, H p = none → Q (.ref p) (upd H p (.dK []))) : tDNewK σ H Q := q
theorem z_isbl {c d : Bool} (q : Q (.bl (decide (c = d))) H) : rIsBl (.bl c) (.bl d) H Q := ⟨c, d, rfl, rfl, q⟩
theorem z_notbl {c d : Bool} (q : Q (.bl (!decide (c = d))) H) : rNotBl (.bl c) (.bl d) H Q := ⟨c, d, rfl, rfl, q⟩
theorem z_mulS {n : Int} (h : MulOk s n) (q : Q (.str (Txt.mul s n)) H) : rMulStr (.str s) (.int n) H Q := ⟨s, n, rfl, rfl, h, q⟩
theorem z_strI (h : i.natAbs.log2 < 1920) (q : Q (.str (toString i)) H) : cStrInt [.int i] H Q := ⟨i, rfl, h, q⟩
theorem z_nopart (q : QO none H) : tNoPart σ H QO := q
theorem z_part (q : te σ H fun x H1 => ∃ i, x = .int i ∧ QO (some i) H1) : tPart te σ H QO := q
theorem z_part1 {R : Int → Prop} (q : R i) : ∃ j, V.int i = .int j ∧ R j := ⟨i, rfl, q⟩
theorem z_sl {r : V → Option Int → Option Int → Hp → VK → Prop} (q : te σ H fun x H1 => tl σ H1 fun l H2 => th σ H2 fun u H3 => r x l u H3 Q) : tSl r te tl th σ H Q := q
theorem z_slL {lo hi : Option Int} (h : SqL K H a xs) (q : ∀ p, H p = none → Q (.ref p) (upd H p (.lst (cutV xs lo hi)))) : rSlL K (.ref a) lo hi H Q := ⟨a, xs, rfl, h, q⟩
theorem z_slS {lo hi : Option Int} (h : z.length ≤ sizeLine) (q : Q (.str (cutS z lo hi)) H) : rSlS (.str z) lo hi H Q := ⟨z, rfl, h, q⟩
theorem z_chain {r r' : R2} (q : ta σ H fun x H1 => tb σ H1 fun y H2 => r x y H2 fun z H3 => ∃ k, z = .bl k ∧ if k = true then tc σ H3 fun w' H4 => r' y w' H4 Q else Q (.bl false) H3) : tChain r r' ta tb tc σ H Q := q

/-! ### truth -/
theorem z_test (q : te σ H fun x H' => ∃ k, x = .bl k ∧ QB k H') : tTest te σ H QB := q
theorem z_tB (q : te σ H fun x H' => ∃ k, x = .bl k ∧ QB k H') : tB te σ H QB := q
theorem z_bl {R : Bool → Prop} (q : R b) : ∃ k, V.bl b = .bl k ∧ R k := ⟨b, rfl, q⟩
theorem z_tru (q : ta σ H fun x H' => ∃ k, TruV K x H' k ∧ QB k H') : tTru K ta σ H QB := q
theorem z_trub {R : Bool → Prop} (q : R b) : ∃ k, TruV K (.bl b) H k ∧ R k := ⟨b, rfl, q⟩
theorem z_trui {R : Bool → Prop} (q : R (i != 0)) : ∃ k, TruV K (.int i) H k ∧ R k := ⟨_, rfl, q⟩
theorem z_trun {R : Bool → Prop} (q : R false) : ∃ k, TruV K .non H k ∧ R k := ⟨_, rfl, q⟩
theorem z_trul {R : Bool → Prop} (h : SqL K H a xs) (q : R (!xs.isEmpty)) : ∃ k, TruV K (.ref a) H k ∧ R k := ⟨_, .inl ⟨xs, h, rfl⟩, q⟩
theorem z_and (q : t σ H fun c H1 => if c = true then u σ H1 QB else QB false H1) : tAnd t u σ H QB := q
theorem z_or (q : t σ H fun c H1 => if c = true then QB true H1 else u σ H1 QB) : tOr t u σ H QB := q
theorem z_not (q : t σ H fun c H1 => QB (!c) H1) : tNot t σ H QB := q
theorem z_yes (q : QB true H) : tYes σ H QB := q
theorem ite_t {A B : Prop} (q : A) : if true = true then A else B := by rw [if_pos rfl]; exact q
theorem ite_f {A B : Prop} (q : B) : if false = true then A else B := by rw [if_neg Bool.false_ne_true]; exact q
theorem ite_b {A B : Prop} (h1 : b = true → A) (h2 : b = false → B) : if b = true then A else B := by
  cases b with
  | true => exact ite_t (h1 rfl)
  | false => exact ite_f (h2 rfl)

/-! ### statements -/
theorem z_seq (q : ts { D with nx := tu D } σ H) : tSeq ts tu D σ H := q
theorem z_cut (Mid : L2.St → Hp → Prop) (h : ts { D with nx := Mid } σ H) (q : ∀ σ' H', Mid σ' H' → tu D σ' H') : Evl.tCut ts tu D σ H := ⟨Mid, h, q⟩
theorem z_next (q : D.nx σ H) : tNext D σ H := q
theorem z_ret (q : te σ H D.rt) : tRet te D σ H := q
theorem z_retN (q : D.rt .non H) : tRetN D σ H := q
theorem z_drop (q : te σ H fun _ H1 => D.nx σ H1) : tDrop te D σ H := q
theorem z_ifs (q : t σ H fun b H1 => if b = true then ts D σ H1 else tu D σ H1) : tIfS t ts tu D σ H := q
theorem z_asg (q : te σ H fun x H1 => g x σ H1 D.nx) : tAsg te g D σ H := q
theorem z_brk (q : D.bk σ H) : tBreak D σ H := q
theorem z_cont (q : D.ct σ H) : tCont D σ H := q
theorem z_gname {n : Nat} {QS : L2.St → Hp → Prop} (q : QS (σ.set n (some v)) H) : gName n v σ H QS := q
theorem z_aug {n : Nat} {f : Int → Int → Int} (h : σ[n]? = some (some (.int i))) (q : te σ H fun y H1 => ipI f (.int i) y H1 fun z H2 => D.nx (σ.set n (some z)) H2) : tAug n te (ipI f) D σ H := ⟨.int i, h, q⟩
theorem z_ipi {f : Int → Int → Int} (q : Q (.int (f i j)) H) : ipI f (.int i) (.int j) H Q := ⟨i, j, rfl, rfl, q⟩
theorem z_gtup2 {m n : Nat} {QS : L2.St → Hp → Prop} (h : SqT K H a [x, y]) (q : QS ((σ.set m (some x)).set n (some y)) H) : gTup K 2 (gCons (gName m) (gCons (gName n) gNil)) (.ref a) σ H QS := ⟨a, _, rfl, h, rfl, x, [y], rfl, y, [], rfl, rfl, q⟩
theorem z_bm {r : V → List V → Hp → VK → Prop} {T : String} (q : te σ H fun x H1 => tyV K T x H1 ∧ tr σ H1 fun xs H2 => r x xs H2 Q) : tBM K T r te tr σ H Q := q
theorem z_bm0 {r : V → List V → Hp → VK → Prop} {T : String} (q : te σ H fun x H1 => tyV K T x H1 ∧ r x [] H1 Q) : tBM0 K T r te σ H Q := q
theorem z_tyl {R : Prop} (h : SqL K H a xs) (q : R) : tyV K "list" (.ref a) H ∧ R := ⟨.inl ⟨rfl, xs, h⟩, q⟩
theorem z_tys {R : Prop} (q : R) : tyV K "str" (.str z) H ∧ R := ⟨rfl, q⟩
theorem z_rapp (h : H a = some (.lst xs)) (hz : xs.length < sizeLine) (q : Q .non (upd H a (.lst (xs ++ [v])))) : rAppend (.ref a) [v] H Q := ⟨a, xs, v, rfl, rfl, h, hz, q⟩
theorem z_rext {c : Addr} {ys : List V} (h : H a = some (.lst xs)) (h2 : H c = some (.lst ys)) (hz : xs.length + ys.length ≤ sizeLine) (q : Q .non (upd H a (.lst (xs ++ ys)))) : rExtend (.ref a) [.ref c] H Q := ⟨a, c, xs, ys, rfl, rfl, h, h2, hz, q⟩
theorem z_rpop (h : H a = some (.lst xs)) (e : xs[xs.length - 1]? = some v) (q : Q v (upd H a (.lst xs.dropLast))) : rPop (.ref a) [] H Q := ⟨a, xs, v, rfl, rfl, h, e, q⟩
end
/-! ### loops -/
def FW (J : It) (g : TG) (tb : TS) (D : Ends) (σ : L2.St) (H1 : Hp) : Prop := ∃ W : Nat → Nat → L2.St → Hp → Prop, (∃ m, W 0 m σ H1) ∧ ∀ i m σ H, W i m σ H →
  (J.stop i H ∧ D.nx σ H) ∨ (J.go i H ∧ ∃ N : L2.St → Hp → Prop, (∀ σ' H', N σ' H' → ∃ m', m' < m ∧ W (i + 1) m' σ' H') ∧ ∀ x H', J.yld i H x H' → g x σ H' fun σ2 H2 => tb { D with nx := N, ct := N, bk := D.nx } σ2 H2)
def FL (K : PySem.W.Frag) (g : TG) (tb : TS) (D : Ends) (σ : L2.St) (x : V) (H1 : Hp) : Prop := ∃ a, x = .ref a ∧ (∃ xs, SqL K H1 a xs) ∧ FW (Itl K a) g tb D σ H1
def FT (K : PySem.W.Frag) (g : TG) (tb : TS) (D : Ends) (σ : L2.St) (x : V) (H1 : Hp) : Prop := ∃ a, x = .ref a ∧ (∃ xs, SqT K H1 a xs) ∧ FW (Itt K a) g tb D σ H1
def FS (g : TG) (tb : TS) (D : Ends) (σ : L2.St) (v : V) (H1 : Hp) : Prop := ∃ x, v = .str x ∧ FW (Its x) g tb D σ H1
def FR1 (g : TG) (tb : TS) (D : Ends) (σ : L2.St) (vs : List V) (H1 : Hp) : Prop := ∃ j : Int, vs = [.int j] ∧ -(2 ^ 62) ≤ j ∧ j < 2 ^ 62 ∧ FW (Itr 0 j.toNat) g tb D σ H1
def FR2 (g : TG) (tb : TS) (D : Ends) (σ : L2.St) (vs : List V) (H1 : Hp) : Prop := ∃ i j : Int, vs = [.int i, .int j] ∧ (-(2 ^ 62) ≤ i ∧ i < 2 ^ 62 ∧ -(2 ^ 62) ≤ j ∧ j < 2 ^ 62) ∧ FW (Itr i (j - i).toNat) g tb D σ H1
def FZ (K : PySem.W.Frag) (g : TG) (tb : TS) (D : Ends) (σ : L2.St) (vs : List V) (H1 : Hp) : Prop := ∃ a b xs ys, vs = [.ref a, .ref b] ∧ SqL K H1 a xs ∧ SqL K H1 b ys ∧ FW (Itz K a b) g tb D σ H1
def FE (K : PySem.W.Frag) (g : TG) (tb : TS) (D : Ends) (σ : L2.St) (vs : List V) (H1 : Hp) : Prop := ∃ a xs, vs = [.ref a] ∧ SqL K H1 a xs ∧ FW (Ite K a) g tb D σ H1
section
variable {K : PySem.W.Frag} {σ : L2.St} {H : Hp} {D : Ends} {g : TG} {tb tu : TS} {te : TE} {ta : TA} {a b : Addr} {xs ys : List V}
theorem z_fl (q : te σ H fun x H1 => FL K g tb D σ x H1) : tFor (iList K te) g tb D σ H := q
theorem z_ft (q : te σ H fun x H1 => FT K g tb D σ x H1) : tFor (iTup K te) g tb D σ H := q
theorem z_fs (q : te σ H fun x H1 => FS g tb D σ x H1) : tFor (iStr te) g tb D σ H := q
theorem z_fr1 (q : ta σ H fun x H1 => FR1 g tb D σ x H1) : tFor (iRng1 ta) g tb D σ H := q
theorem z_fr2 (q : ta σ H fun x H1 => FR2 g tb D σ x H1) : tFor (iRng2 ta) g tb D σ H := q
theorem z_fz (q : ta σ H fun x H1 => FZ K g tb D σ x H1) : tFor (iZip K ta) g tb D σ H := q
theorem z_fe (q : ta σ H fun x H1 => FE K g tb D σ x H1) : tFor (iEnum K ta) g tb D σ H := q
/-- over a list: Pv by the turn, the slots, the heap -/
theorem z_FL (hx : SqL K H a xs) (Pv : Nat → L2.St → Hp → Prop) (h0 : Pv 0 σ H) (hG : ∀ i σ H, i ≤ xs.length → Pv i σ H → SqL K H a xs)
    (hs : ∀ i x σ H, i < xs.length → xs[i]? = some x → Pv i σ H → g x σ H fun σ2 H2 => tb { D with nx := Pv (i + 1), ct := Pv (i + 1), bk := D.nx } σ2 H2) (hd : ∀ σ H, Pv xs.length σ H → D.nx σ H) : FL K g tb D σ (.ref a) H :=
  ⟨a, rfl, ⟨xs, hx⟩, for_it walk_list Pv h0 hG (fun i x σ H H' hi p y => by
    obtain ⟨rfl, e⟩ := y
    exact hs i x σ _ hi e p) hd⟩
theorem z_FT (hx : SqT K H a xs) (Pv : Nat → L2.St → Hp → Prop) (h0 : Pv 0 σ H) (hG : ∀ i σ H, i ≤ xs.length → Pv i σ H → SqT K H a xs)
    (hs : ∀ i x σ H, i < xs.length → xs[i]? = some x → Pv i σ H → g x σ H fun σ2 H2 => tb { D with nx := Pv (i + 1), ct := Pv (i + 1), bk := D.nx } σ2 H2) (hd : ∀ σ H, Pv xs.length σ H → D.nx σ H) : FT K g tb D σ (.ref a) H :=
  ⟨a, rfl, ⟨xs, hx⟩, for_it walk_tup Pv h0 hG (fun i x σ H H' hi p y => by
    obtain ⟨rfl, e⟩ := y
    exact hs i x σ _ hi e p) hd⟩
theorem z_FS {z : Str} (Pv : Nat → L2.St → Hp → Prop) (h0 : Pv 0 σ H)
    (hs : ∀ i (c : Nat) σ H, i < z.cps.size → z.cps[i]? = some c → Pv i σ H → g (.str ⟨#[c]⟩) σ H fun σ2 H2 => tb { D with nx := Pv (i + 1), ct := Pv (i + 1), bk := D.nx } σ2 H2) (hd : ∀ σ H, Pv z.cps.size σ H → D.nx σ H) : FS g tb D σ (.str z) H :=
  ⟨z, rfl, for_it walk_str Pv h0 (fun _ _ _ _ _ => trivial) (fun i x σ H H' hi p y => by
    obtain ⟨rfl, c, e, rfl⟩ := y
    exact hs i c σ _ hi e p) hd⟩
theorem z_FR1 {n : Int} (hn : -(2 ^ 62) ≤ n ∧ n < 2 ^ 62) (Pv : Nat → L2.St → Hp → Prop) (h0 : Pv 0 σ H)
    (hs : ∀ (i : Nat) σ H, i < n.toNat → Pv i σ H → g (.int (i : Int)) σ H fun σ2 H2 => tb { D with nx := Pv (i + 1), ct := Pv (i + 1), bk := D.nx } σ2 H2) (hd : ∀ σ H, Pv n.toNat σ H → D.nx σ H) : FR1 g tb D σ [.int n] H :=
  ⟨n, rfl, hn.1, hn.2, for_it walk_range Pv h0 (fun _ _ _ _ _ => trivial) (fun i x σ H H' hi p y => by
    obtain ⟨rfl, rfl⟩ := y
    show g (.int (0 + (i : Int))) σ H' _
    rw [Int.zero_add]
    exact hs i σ _ hi p) hd⟩
theorem z_FZ {n : Nat} (hn : n = min xs.length ys.length) (hx : SqL K H a xs) (hy : SqL K H b ys) (Pv : Nat → L2.St → Hp → Prop) (h0 : Pv 0 σ H) (hG : ∀ i σ H, i ≤ n → Pv i σ H → SqL K H a xs ∧ SqL K H b ys)
    (hs : ∀ i x y p σ H H', i < n → xs[i]? = some x → ys[i]? = some y → Pv i σ H → Ex H H' → H p = none → H' = upd H p (.tup [x, y]) → g (.ref p) σ H' fun σ2 H2 => tb { D with nx := Pv (i + 1), ct := Pv (i + 1), bk := D.nx } σ2 H2) (hd : ∀ σ H, Pv n σ H → D.nx σ H) : FZ K g tb D σ [.ref a, .ref b] H :=
  ⟨a, b, xs, ys, rfl, hx, hy, for_it (walk_zip hn) Pv h0 hG (fun i x σ H H' hi p y => by
    obtain ⟨T, u, v, rfl, e1, rfl, e3, e4⟩ := y
    exact hs i u v T σ _ _ hi e3 e4 p (Ex.new e1) e1 rfl) hd⟩
theorem z_FE (hx : SqL K H a xs) (Pv : Nat → L2.St → Hp → Prop) (h0 : Pv 0 σ H) (hG : ∀ i σ H, i ≤ xs.length → Pv i σ H → SqL K H a xs)
    (hs : ∀ i x p σ H H', i < xs.length → xs[i]? = some x → Pv i σ H → Ex H H' → H p = none → H' = upd H p (.tup [.int (i : Nat), x]) → g (.ref p) σ H' fun σ2 H2 => tb { D with nx := Pv (i + 1), ct := Pv (i + 1), bk := D.nx } σ2 H2) (hd : ∀ σ H, Pv xs.length σ H → D.nx σ H) : FE K g tb D σ [.ref a] H :=
  ⟨a, xs, rfl, hx, for_it walk_enum Pv h0 hG (fun i x σ H H' hi p y => by
    obtain ⟨T, u, v, rfl, e1, rfl, e3, e4⟩ := y
    cases e3
    exact hs i v T σ _ _ hi e4 p (Ex.new e1) e1 rfl) hd⟩
theorem z_while {tc : TT} (W : Nat → L2.St → Hp → Prop) (m : Nat) (h0 : W m σ H) (hs : ∀ m σ H, W m σ H → tc σ H fun b H1 => if b = true then ∃ N : L2.St → Hp → Prop, (∀ σ' H', N σ' H' → ∃ m', m' < m ∧ W m' σ' H') ∧ tb { D with nx := N, ct := N, bk := D.nx } σ H1 else D.nx σ H1) : tWhile tc tb D σ H := ⟨W, ⟨m, h0⟩, hs⟩
end
/-! ### comprehensions -/
def CW (J : It) (g : TG) (tt : TT) (te : TE) (vs : List Nat) (σ : L2.St) (H1 : Hp) (Q : VK) : Prop := ∀ D, H1 D = none → ∃ W : Nat → Nat → Hp → Prop, (∃ m, W 0 m (upd H1 D (.lst []))) ∧ ∀ i m H, W i m H →
  (J.stop i H ∧ Q (.ref D) H) ∨ (J.go i H ∧ ∃ Nx : Hp → Prop, (∀ H', Nx H' → ∃ m', m' < m ∧ W (i + 1) m' H') ∧ ∀ x H', J.yld i H x H' → g x (wipe σ vs) H' fun σ2 H2 => wipe σ2 vs = wipe σ vs ∧ tt σ2 H2 fun b H3 =>
    if b = true then te σ2 H3 fun y H4 => ∃ acc, H4 D = some (.lst acc) ∧ acc.length < sizeLine ∧ Nx (upd H4 D (.lst (acc ++ [y]))) else Nx H3)
def CL (K : PySem.W.Frag) (g : TG) (tt : TT) (te : TE) (vs : List Nat) (σ : L2.St) (x : V) (H1 : Hp) (Q : VK) : Prop := ∃ a, x = .ref a ∧ (∃ xs, SqL K H1 a xs) ∧ CW (Itl K a) g tt te vs σ H1 Q
def CS (g : TG) (tt : TT) (te : TE) (vs : List Nat) (σ : L2.St) (x : V) (H1 : Hp) (Q : VK) : Prop := ∃ z, x = .str z ∧ CW (Its z) g tt te vs σ H1 Q
def CR1 (g : TG) (tt : TT) (te : TE) (vs : List Nat) (σ : L2.St) (xs : List V) (H1 : Hp) (Q : VK) : Prop := ∃ j : Int, xs = [.int j] ∧ -(2 ^ 62) ≤ j ∧ j < 2 ^ 62 ∧ CW (Itr 0 j.toNat) g tt te vs σ H1 Q
def CRv (g : TG) (tt : TT) (te : TE) (vs : List Nat) (σ : L2.St) (x : V) (H1 : Hp) (Q : VK) : Prop := ∃ n : Int, x = .int n ∧ (-(2 ^ 62) ≤ (0 : Int) ∧ (0 : Int) < 2 ^ 62 ∧ -(2 ^ 62) ≤ n ∧ n < 2 ^ 62 ∧ CW (Itc (0 + (((n - 0).toNat : Nat) : Int) - 1) (-1) (n - 0).toNat) g tt te vs σ H1 Q)
section
variable {K : PySem.W.Frag} {σ : L2.St} {H : Hp} {Q : VK} {g : TG} {tt : TT} {te tl : TE} {ta : TA} {vs : List Nat} {a : Addr} {xs : List V} {J : It} {n j : Nat} {G : Hp → Prop}
theorem z_cl (q : tl σ H fun x H1 => CL K g tt te vs σ x H1 Q) : tLc (iList K tl) g tt te vs σ H Q := q
theorem z_cs (q : tl σ H fun x H1 => CS g tt te vs σ x H1 Q) : tLc (iStr tl) g tt te vs σ H Q := q
theorem z_cr1 (q : ta σ H fun x H1 => CR1 g tt te vs σ x H1 Q) : tLc (iRng1 ta) g tt te vs σ H Q := q
theorem z_crv (q : tl σ H fun x H1 => CRv g tt te vs σ x H1 Q) : tLc (iRevR (tRg1 tl)) g tt te vs σ H Q := q
/-- things without objects of their own -/
theorem z_CW {X : Nat → V} (w : Walk J n G (fun i H x H' => H' = H ∧ x = X i)) (hn : n ≤ 40000) (hG : ∀ H', Ex H H' → G H') (f : Nat → Bool) (v : Nat → V) (hw : ∀ x, wipe ((wipe σ vs).set j (some x)) vs = wipe σ vs)
    (ht : ∀ i H', i < n → Ex H H' → Evl.EvT tt ((wipe σ vs).set j (some (X i))) H' (f i)) (he : ∀ i H', i < n → Ex H H' → f i = true → Evl.Ev te ((wipe σ vs).set j (some (X i))) H' (v i))
    (q : ∀ p H2, H p = none → Ex H H2 → H2 p = some (.lst (Evl.given n f v)) → Q (.ref p) H2) : CW J (gName j) tt te vs σ H Q := fun Dl hD =>
  lc_it w (Evl.Cw H f v Dl) ⟨hD, Ex.new hD, upd_same⟩ (fun _ _ _ p => hG _ p.2.1) (fun i x H1 H2 hi p y => by
    obtain ⟨rfl, rfl⟩ := y
    exact ⟨hw _, Evl.cw_turn p (by omega) (ht i H hi (Ex.refl H)) (fun hf => he i H hi (Ex.refl H) hf)⟩) (fun H' p => q Dl H' p.1 p.2.1 p.2.2)
theorem z_CL (hx : SqL K H a xs) (hz : xs.length ≤ 40000) (f : Nat → Bool) (v : Nat → V) (hw : ∀ x, wipe ((wipe σ vs).set j (some x)) vs = wipe σ vs)
    (ht : ∀ i x H', i < xs.length → xs[i]? = some x → Ex H H' → Evl.EvT tt ((wipe σ vs).set j (some x)) H' (f i)) (he : ∀ i x H', i < xs.length → xs[i]? = some x → Ex H H' → f i = true → Evl.Ev te ((wipe σ vs).set j (some x)) H' (v i))
    (q : ∀ p H2, H p = none → Ex H H2 → H2 p = some (.lst (Evl.given xs.length f v)) → Q (.ref p) H2) : CL K (gName j) tt te vs σ (.ref a) H Q :=
  ⟨a, rfl, ⟨xs, hx⟩, z_CW (X := fun i => xs.getD i .non) (walk_list.mono (fun _ h => h) (fun i H x H' _ _ y => ⟨y.1, by rw [List.getD_eq_getElem?_getD, y.2] <;> rfl⟩)) hz (fun _ e => ex_l e hx) f v hw
    (fun i H' hi e => ht i _ H' hi (by rw [List.getD_eq_getElem?_getD, List.getElem?_eq_getElem hi] <;> rfl) e) (fun i H' hi e hf => he i _ H' hi (by rw [List.getD_eq_getElem?_getD, List.getElem?_eq_getElem hi] <;> rfl) e hf) q⟩
theorem z_CR1 {m : Int} (hn : 0 ≤ m ∧ m ≤ 40000) (f : Nat → Bool) (v : Nat → V) (hw : ∀ x, wipe ((wipe σ vs).set j (some x)) vs = wipe σ vs)
    (ht : ∀ (i : Nat) H', i < m.toNat → Ex H H' → Evl.EvT tt ((wipe σ vs).set j (some (.int (i : Int)))) H' (f i)) (he : ∀ (i : Nat) H', i < m.toNat → Ex H H' → f i = true → Evl.Ev te ((wipe σ vs).set j (some (.int (i : Int)))) H' (v i))
    (q : ∀ p H2, H p = none → Ex H H2 → H2 p = some (.lst (Evl.given m.toNat f v)) → Q (.ref p) H2) : CR1 (gName j) tt te vs σ [.int m] H Q :=
  ⟨m, rfl, by omega, by omega, z_CW (X := fun i => .int (i : Int)) (walk_range.mono (fun _ h => h) (fun i H x H' _ _ y => ⟨y.1, by rw [y.2]; show V.int (0 + (i : Int)) = _; rw [Int.zero_add]⟩)) (by omega) (fun _ _ => trivial) f v hw ht he q⟩
theorem z_CRv {m : Nat} (hn : m ≤ 40000) (f : Nat → Bool) (v : Nat → V) (hw : ∀ x, wipe ((wipe σ vs).set j (some x)) vs = wipe σ vs)
    (ht : ∀ (i : Nat) H', i < m → Ex H H' → Evl.EvT tt ((wipe σ vs).set j (some (.int ((m - 1 - i : Nat) : Int)))) H' (f i)) (he : ∀ (i : Nat) H', i < m → Ex H H' → f i = true → Evl.Ev te ((wipe σ vs).set j (some (.int ((m - 1 - i : Nat) : Int)))) H' (v i))
    (q : ∀ p H2, H p = none → Ex H H2 → H2 p = some (.lst (Evl.given m f v)) → Q (.ref p) H2) : CRv (gName j) tt te vs σ (.int (m : Int)) H Q := by
  refine ⟨m, rfl, by decide, by decide, by omega, by omega, ?_⟩
  have e : ((m : Int) - 0).toNat = m := by omega
  rw [e]
  exact z_CW (X := fun i => .int ((m - 1 - i : Nat) : Int)) (walk_rangeC.mono (fun _ h => h) (fun i H x H' hi _ y => ⟨y.1, by
    rw [y.2]
    show V.int (0 + (m : Int) - 1 + (i : Int) * -1) = _
    congr 1
    omega⟩)) hn (fun _ _ => trivial) f v hw ht he q
theorem z_CS {z : Str} (hz : z.cps.size ≤ 40000) (f : Nat → Bool) (v : Nat → V) (hw : ∀ x, wipe ((wipe σ vs).set j (some x)) vs = wipe σ vs)
    (ht : ∀ i (c : Nat) H', i < z.cps.size → z.cps[i]? = some c → Ex H H' → Evl.EvT tt ((wipe σ vs).set j (some (.str ⟨#[c]⟩))) H' (f i)) (he : ∀ i (c : Nat) H', i < z.cps.size → z.cps[i]? = some c → Ex H H' → f i = true → Evl.Ev te ((wipe σ vs).set j (some (.str ⟨#[c]⟩))) H' (v i))
    (q : ∀ p H2, H p = none → Ex H H2 → H2 p = some (.lst (Evl.given z.cps.size f v)) → Q (.ref p) H2) : CS (gName j) tt te vs σ (.str z) H Q :=
  ⟨z, rfl, z_CW (X := fun i => .str ⟨#[z.cps.getD i 0]⟩) (walk_str.mono (fun _ h => h) (fun i H x H' _ _ y => by
      obtain ⟨e, c, e2, e3⟩ := y
      refine ⟨e, ?_⟩
      rw [e3]; congr 2; simp [Array.getD_eq_getD_getElem?, e2])) hz (fun _ _ => trivial) f v hw
    (fun i H' hi e => ht i _ H' hi (by simp [hi]) e) (fun i H' hi e hf => he i _ H' hi (by simp [hi]) e hf) q⟩
end
end Z
/-! ### data without truths: == is = -/
namespace Z
open PySem PySem.Spec PyProof.Rows L2
mutual
def cl : PyData → Bool
  | .none => true
  | .int _ => true
  | .str x => PyData.canLay0 (.str x)
  | .list xs => clAll xs
  | .tuple xs => clAll xs
  | .bool _ => false
  | .dict _ => false
def clAll : List PyData → Bool
  | [] => true
  | x :: xs => cl x && clAll xs
end
mutual
theorem cl_lay : ∀ d, cl d = true → d.canLay0 = true
  | .none, _ => rfl
  | .int _, _ => rfl
  | .str _, h => h
  | .list xs, h => clAll_lay xs h
  | .tuple xs, h => clAll_lay xs h
  | .bool _, h => by cases h
  | .dict _, h => by cases h
theorem clAll_lay : ∀ xs, clAll xs = true → PyData.canLayAll0 xs = true
  | [], _ => rfl
  | x :: xs, h => by
    have h' := Bool.and_eq_true_iff.mp (show (cl x && clAll xs) = true from h)
    show (x.canLay0 && PyData.canLayAll0 xs) = true
    rw [cl_lay x h'.1, clAll_lay xs h'.2] <;> rfl
end
mutual
theorem eqv_cl : ∀ d e : PyData, cl d = true → cl e = true → PyData.eqv d e = true → d = e
  | .none, e, _, he, h => by cases e <;> first | rfl | cases h
  | .int i, e, _, he, h => by
    cases e with
    | int j => rw [eq_of_beq (show (i == j) = true from h)]
    | bool _ => cases he
    | _ => cases h
  | .str x, e, _, he, h => by
    cases e with
    | str y => rw [eq_of_beq (show (x == y) = true from h)]
    | _ => cases h
  | .list xs, e, hd, he, h => by
    cases e with
    | list ys => rw [eqvAll_cl xs ys hd he h]
    | _ => cases h
  | .tuple xs, e, hd, he, h => by
    cases e with
    | tuple ys => rw [eqvAll_cl xs ys hd he h]
    | _ => cases h
  | .bool _, _, hd, _, _ => by cases hd
  | .dict _, _, hd, _, _ => by cases hd
theorem eqvAll_cl : ∀ xs ys : List PyData, clAll xs = true → clAll ys = true → PyData.eqvAll xs ys = true → xs = ys
  | [], [], _, _, _ => rfl
  | [], _ :: _, _, _, h => by cases h
  | _ :: _, [], _, _, h => by cases h
  | x :: xs, y :: ys, hd, he, h => by
    have h1 := Bool.and_eq_true_iff.mp (show (cl x && clAll xs) = true from hd)
    have h2 := Bool.and_eq_true_iff.mp (show (cl y && clAll ys) = true from he)
    have h3 := Bool.and_eq_true_iff.mp (show (PyData.eqv x y && PyData.eqvAll xs ys) = true from h)
    rw [eqv_cl x y h1.1 h2.1 h3.1, eqvAll_cl xs ys h1.2 h2.2 h3.2]
end
theorem eqv_iff {d e : PyData} (hd : cl d = true) (he : cl e = true) : PyData.eqv d e = true ↔ d = e :=
  ⟨eqv_cl d e hd he, fun h => by
    rw [h]
    exact SeqAt.eqv_refl e (cl_lay e he)⟩
theorem shaped_cl {d : PyData} (hd : cl d = true) (h : d.depth ≤ 64) : SeqAt.shaped d = true := Bool.and_eq_true_iff.mpr ⟨cl_lay d hd, decide_eq_true h⟩
section
variable {K : PySem.W.Frag} {H : Hp} {Q : VK} {x y : V} {d e : PyData}
/-- == over such data -/
theorem z_eqD {b : Bool} (hx : Dp K H x d) (hy : Dp K H y e) (cd : cl d = true) (ce : cl e = true) (dd : d.depth ≤ 64) (de : e.depth ≤ 64) (hb : b = true ↔ d = e) (q : Q (.bl b) H) : rEqD K x y H Q := by
  refine ⟨d, e, hx, hy, shaped_cl cd dd, shaped_cl ce de, ?_⟩
  have e2 : PyData.eqv d e = b := by
    have h := eqv_iff cd ce
    cases hb2 : PyData.eqv d e with
    | true => exact (hb.mpr (h.mp hb2)).symm
    | false =>
      cases b with
      | false => rfl
      | true => exact absurd (h.mpr (hb.mp rfl)) (by rw [hb2]; decide)
  rw [e2]
  exact q
theorem z_neD {b : Bool} (hx : Dp K H x d) (hy : Dp K H y e) (cd : cl d = true) (ce : cl e = true) (dd : d.depth ≤ 64) (de : e.depth ≤ 64) (hb : b = true ↔ d = e) (q : Q (.bl (!b)) H) : rNeD K x y H Q := by
  refine ⟨d, e, hx, hy, shaped_cl cd dd, shaped_cl ce de, ?_⟩
  have e2 : PyData.eqv d e = b := by
    have h := eqv_iff cd ce
    cases hb2 : PyData.eqv d e with
    | true => exact (hb.mpr (h.mp hb2)).symm
    | false =>
      cases b with
      | false => rfl
      | true => exact absurd (h.mpr (hb.mp rfl)) (by rw [hb2]; decide)
  rw [e2]
  exact q
theorem dp_ints : ∀ l : List Int, DpAll K H (l.map V.int) (l.map PyData.int)
  | [] => .nil
  | i :: l => .cons (.int i) (dp_ints l)
theorem cl_ints : ∀ l : List Int, clAll (l.map PyData.int) = true
  | [] => rfl
  | _ :: l => cl_ints l
theorem depth_ints : ∀ l : List Int, PyData.depthAll (l.map PyData.int) = 0
  | [] => rfl
  | i :: l => by
    show max 0 (PyData.depthAll (l.map PyData.int)) = 0
    rw [depth_ints l] <;> rfl
theorem ints_inj {l m : List Int} (h : l.map PyData.int = m.map PyData.int) : l = m := by
  have e := congrArg (List.map fun d => match d with
    | PyData.int i => i
    | _ => 0) h
  rw [List.map_map, List.map_map] at e
  have f : ∀ l : List Int, List.map ((fun d => match d with
    | PyData.int i => i
    | _ => 0) ∘ PyData.int) l = l := fun l => by
    induction l with
    | nil => rfl
    | cons a l ih => rw [List.map_cons, ih] <;> rfl
  rw [f, f] at e
  exact e
theorem z_eqL {a c : Addr} {l m : List Int} {b : Bool} (hx : SqL K H a (l.map V.int)) (hy : SqL K H c (m.map V.int)) (hb : b = true ↔ l = m) (q : Q (.bl b) H) : rEqD K (.ref a) (.ref c) H Q :=
  z_eqD (.lst hx (dp_ints l)) (.lst hy (dp_ints m)) (cl_ints l) (cl_ints m) (by show PyData.depthAll _ + 1 ≤ 64; rw [depth_ints]; decide) (by show PyData.depthAll _ + 1 ≤ 64; rw [depth_ints]; decide)
    (hb.trans ⟨fun h => by rw [h], fun h => ints_inj (by injection h)⟩) q
end
end Z
/-! ### texts as lists of signs -/
namespace Z
open PySem PySem.Spec PyProof.Rows L2
open Evl (Ex ex_l ex_t ex_rd sq_of st_of fresh_back)
def S (l : List Nat) : Str := ⟨l.toArray⟩
theorem S_len (l : List Nat) : (S l).length = l.length := by
  show l.toArray.size = _
  simp
theorem S_size (l : List Nat) : (S l).cps.size = l.length := S_len l
theorem S_tl (l : List Nat) : (S l).cps.toList = l := by
  show l.toArray.toList = l
  simp
theorem S_of (s : Str) : s = S s.cps.toList := by
  cases s with
  | mk a => simp [S]
theorem S_app (l m : List Nat) : S l ++ S m = S (l ++ m) := by
  show (⟨l.toArray ++ m.toArray⟩ : Str) = ⟨(l ++ m).toArray⟩
  simp
theorem S_inj {l m : List Nat} (h : S l = S m) : l = m := by rw [← S_tl l, h, S_tl]
theorem S_iff {l m : List Nat} : S l = S m ↔ l = m := ⟨S_inj, fun h => by rw [h]⟩
theorem S_get (l : List Nat) (i : Nat) : (S l).cps[i]? = l[i]? := by
  show l.toArray[i]? = _
  simp
/-- a slice by places -/
def cutL (l : List Nat) (lo hi : Option Int) : List Nat := (l.drop (HT.sIx l.length 0 lo)).take (HT.sIx l.length l.length hi - HT.sIx l.length 0 lo)
theorem S_cut (l : List Nat) (lo hi : Option Int) : cutS (S l) lo hi = S (cutL l lo hi) := by
  show (⟨(((S l).cps.toList.drop (HT.sIx (S l).length 0 lo)).take (HT.sIx (S l).length (S l).length hi - HT.sIx (S l).length 0 lo)).toArray⟩ : Str) = _
  rw [S_tl, S_len] <;> rfl
theorem cutL_to (l : List Nat) (n : Nat) : cutL l none (some (n : Int)) = l.take n := by
  unfold cutL
  rw [HT.sIx_none, HT.sIx_nat, List.drop_zero, Nat.sub_zero]
  by_cases h : n ≤ l.length
  · rw [Nat.min_eq_left h]
  · rw [Nat.min_eq_right (by omega), List.take_length, List.take_of_length_le (by omega)]
theorem cutL_from (l : List Nat) (n : Nat) : cutL l (some (n : Int)) none = l.drop n := by
  unfold cutL
  rw [HT.sIx_none, HT.sIx_nat]
  by_cases h : n ≤ l.length
  · rw [Nat.min_eq_left h, List.take_of_length_le (by rw [List.length_drop]; omega)]
  · rw [Nat.min_eq_right (by omega), List.drop_eq_nil_of_le (Nat.le_refl _), List.drop_eq_nil_of_le (by omega), List.take_nil]
theorem cutL_mid (l : List Nat) (m n : Nat) : cutL l (some (m : Int)) (some (n : Int)) = (l.drop m).take (n - m) := by
  unfold cutL
  rw [HT.sIx_nat, HT.sIx_nat]
  by_cases h : m ≤ l.length
  · rw [Nat.min_eq_left h]
    by_cases h2 : n ≤ l.length
    · rw [Nat.min_eq_left h2]
    · rw [Nat.min_eq_right (by omega), List.take_of_length_le (by rw [List.length_drop]; omega), List.take_of_length_le (by rw [List.length_drop]; omega)]
  · rw [List.drop_eq_nil_of_le (by omega), List.drop_eq_nil_of_le (by omega), List.take_nil, List.take_nil]
theorem cutS_le (s : Str) (lo hi : Option Int) : (cutS s lo hi).length ≤ s.length := cutS_length s lo hi
theorem join_S (ls : List (List Nat)) : Txt.join (S []) (ls.map S) = S ls.flatten := by
  rw [TL.join_eq, S_of (Str.join _ _)]
  congr 1
  show TL.tl (Str.join (S []) (ls.map S)) = _
  rw [TL.tl_join]
  have e : TL.tl (S []) = [] := rfl
  have f : ∀ ls : List (List Nat), (ls.map S).map TL.tl = ls := fun ls => by
    rw [List.map_map]
    refine (List.map_congr_left (g := id) fun l _ => S_tl l).trans (List.map_id _)
  rw [e, f]
  have g : ∀ ls : List (List Nat), TL.joinL [] ls = ls.flatten := fun ls => by
    induction ls with
    | nil => rfl
    | cons a r ih =>
      cases r with
      | nil => simp [TL.joinL]
      | cons b r => simp [TL.joinL, ih] at *
  exact g ls
theorem txt_app_len (s z : Str) : (s ++ z).length = s.length + z.length := by
  show (s.cps ++ z.cps).size = _
  rw [Array.size_append] <;> rfl
theorem mul_len (s : Str) (n : Int) (hn : 0 ≤ n) : (Txt.mul s n).length ≤ s.length * n.toNat := by
  unfold Txt.mul
  by_cases h : n < 1
  · rw [if_pos h]
    exact Nat.zero_le _
  · rw [if_neg h]
    by_cases h2 : (n == 1 || s.length == 0) = true
    · rw [if_pos h2]
      exact Nat.le_mul_of_pos_right _ (by omega)
    · rw [if_neg h2]
      show ((List.replicate n.toNat s.cps).foldl (· ++ ·) #[]).size ≤ _
      have g : ∀ (k : Nat) (a : Array Nat), ((List.replicate k s.cps).foldl (· ++ ·) a).size = a.size + s.length * k := fun k => by
        induction k with
        | zero => intro a; simp
        | succ k ih =>
          intro a
          rw [List.replicate_succ, List.foldl_cons, ih, Array.size_append, Nat.mul_succ]
          show a.size + s.cps.size + s.length * k = a.size + (s.length * k + s.cps.size)
          omega
      rw [g]
      simp
theorem mul_ok (s : Str) (n : Int) (h0 : 0 ≤ n) (hn : n ≤ 1000) (hs : s.length ≤ 1000) : MulOk s n := by
  refine ⟨by rw [decide_eq_false (by omega), decide_eq_false (by omega)] <;> rfl, fun h _ => ?_, fun h _ => ?_⟩
  · have : (2 ^ 63 - 1) / 1000 ≤ (2 ^ 63 - 1 : Int) / n := by
      rw [Int.le_ediv_iff_mul_le (by omega)]
      have : (2 ^ 63 - 1 : Int) / 1000 * n ≤ (2 ^ 63 - 1) / 1000 * 1000 := Int.mul_le_mul_of_nonneg_left hn (by decide)
      exact Int.le_trans this (by decide)
    have e : ((2 ^ 63 - 1 : Int)) / 1000 = 9223372036854775 := by decide
    omega
  · have : s.length * n.toNat ≤ 1000 * 1000 := Nat.mul_le_mul hs (by omega)
    show decide (s.length * n.toNat > sizeLine) = false
    exact decide_eq_false (by rw [sizeLine_eq]; omega)
end Z
/-! ### a head's facts and one test more -/
namespace Z
open PySem PySem.Spec PyProof.Rows L2 He
def lookZ (fa : List Fa) (fn : List DefD) (ex : PySem.W.Frag → Bool) (n : Nat) (g : Addr → Option Obj) : AlD × Bool :=
  (obsD fa fn (frG g (asD g n)), ex (frG g (asD g n)))
def hookZ (fa : List Fa) (fn : List DefD) (ex : PySem.W.Frag → Bool) (n : Nat) : PySem.W.Hook where
  α := AlD × Bool
  obs := fun st => lookZ fa fn ex n st.heap.get?
  val := fun _ => (valD fn, true)
  says := fun _ hp => ∃ F : PySem.W.Frag, F.In hp ∧ SaysD fa fn F ∧ ex F = true
  of := fun _ _ eq => ⟨_, frG_in, congrArg Prod.fst eq, congrArg Prod.snd eq⟩
  keeps := fun _ _ _ ⟨F, hF, cF, xF⟩ kp => ⟨F, PySem.W.Frag.In.keeps hF kp, cF, xF⟩
theorem lookZ_eq {fa : List Fa} {fn : List DefD} {ex : PySem.W.Frag → Bool} {n : Nat} {g : Addr → Option Obj} {st : Shared} (hg : ∀ a, g a = st.heap.get? a) : lookZ fa fn ex n g = (hookZ fa fn ex n).obs st := by
  have e : g = st.heap.get? := funext hg
  subst e
  rfl
end Z
/-! ### data, an elder heap's -/
namespace Z
open PySem PySem.Spec PyProof.Rows L2
open Evl (Ex ex_l ex_t ex_rd sq_of st_of fresh_back)
mutual
theorem dp_mono {K : PySem.W.Frag} {H H' : Hp} (e : Ex H H') : ∀ {v : V} {d : PyData}, Dp K H v d → Dp K H' v d
  | _, _, .non => .non
  | _, _, .bl b => .bl b
  | _, _, .int i => .int i
  | _, _, .str x => .str x
  | _, _, .lst s a => .lst (ex_l e s) (dpAll_mono e a)
  | _, _, .tup s a => .tup (ex_t e s) (dpAll_mono e a)
theorem dpAll_mono {K : PySem.W.Frag} {H H' : Hp} (e : Ex H H') : ∀ {vs : List V} {ds : List PyData}, DpAll K H vs ds → DpAll K H' vs ds
  | _, _, .nil => .nil
  | _, _, .cons a r => .cons (dp_mono e a) (dpAll_mono e r)
end
theorem dpAll_app {K : PySem.W.Frag} {H : Hp} : ∀ {vs us : List V} {ds es : List PyData}, DpAll K H vs ds → DpAll K H us es → DpAll K H (vs ++ us) (ds ++ es)
  | _, _, _, _, .nil, b => b
  | _, _, _, _, .cons a r, b => .cons a (dpAll_app r b)
theorem dpAll_len {K : PySem.W.Frag} {H : Hp} : ∀ {vs : List V} {ds : List PyData}, DpAll K H vs ds → vs.length = ds.length
  | _, _, .nil => rfl
  | _, _, .cons _ r => by rw [List.length_cons, List.length_cons, dpAll_len r]
theorem dpAll_get {K : PySem.W.Frag} {H : Hp} : ∀ {vs : List V} {ds : List PyData} {i : Nat} {v : V}, DpAll K H vs ds → vs[i]? = some v → ∃ d, ds[i]? = some d ∧ Dp K H v d
  | _, _, _, _, .nil, h => by simp at h
  | _, _, 0, _, .cons a _, h => by
    cases h
    exact ⟨_, rfl, a⟩
  | _, _, i + 1, _, .cons _ r, h => dpAll_get (i := i) r h
theorem ty_tup {K : PySem.W.Frag} {H : Hp} {a : Addr} {xs : List V} (h : SqT K H a xs) : TyX K H (.ref a) (.type "tuple") := by
  rcases h with (h | ⟨o, h⟩) | ⟨o, its, n, h, hc, _⟩
  · exact .base (.tup h)
  · exact .fTuple h
  · exact .kTuple h hc
theorem ty_lst {K : PySem.W.Frag} {H : Hp} {a : Addr} {xs : List V} (h : SqL K H a xs) : TyX K H (.ref a) (.type "list") := by
  rcases h with (h | ⟨o, h⟩) | ⟨o, its, n, h, hc, _⟩
  · exact .base (.lst h)
  · exact .base (.frz h)
  · exact .kList h hc
/-- a new thing that bears data: I, what was known, grows to J -/
def RetD (K : PySem.W.Frag) (d : PyData) (I H : Hp) (Q : VK) : Prop :=
  ∀ v J H', Ex I J → Ex H H' → Ex J H' → (∀ a o, H a = some o → I a = none → J a = none) → Dp K J v d → Q v H'
/-- a new list of such things -/
def RetLD (K : PySem.W.Frag) (ds : List PyData) (H : Hp) (Q : VK) : Prop :=
  ∀ p xs H', H p = none → Ex H H' → H' p = some (.lst xs) → DpAll K H' xs ds → Q (.ref p) H'
/-- a new tuple over what is known -/
theorem RetD.tup {K : PySem.W.Frag} {ds : List PyData} {I H : Hp} {Q : VK} {p : Addr} {xs : List V} (q : RetD K (.tuple ds) I H Q) (e : Ex I H) (hp : H p = none) (h : DpAll K I xs ds) : Q (.ref p) (upd H p (.tup xs)) := by
  have ip : I p = none := fresh_back e hp
  refine q (.ref p) (upd I p (.tup xs)) _ (Ex.new ip) (Ex.new hp) (fun b o hb => ?_) (fun a o ha hI => ?_) (.tup (st_of upd_same) (dpAll_mono (Ex.new ip) h))
  · by_cases hbp : b = p
    · subst hbp
      rw [upd_same] at hb ⊢
      exact hb
    · rw [upd_ne hbp] at hb ⊢
      exact e b o hb
  · have ne : a ≠ p := fun z => by
      rw [z, hp] at ha
      cases ha
    rw [upd_ne ne]
    exact hI
end Z

set_option linter.all false
set_option maxHeartbeats 1000000
namespace M01
def bitsN : Nat → Nat → List Nat
  | 0, _ => []
  | n + 1, w => (w % 2) :: bitsN n (w / 2)
def numN : List Nat → Nat
  | [] => 0
  | b :: r => b + 2 * numN r
theorem pow_s (n : Nat) : 2 ^ (n + 1) = 2 * 2 ^ n := by rw [Nat.pow_succ, Nat.mul_comm]
theorem mod_s (x n : Nat) : x % 2 ^ (n + 1) = x % 2 + 2 * (x / 2 % 2 ^ n) := by rw [pow_s, Nat.mod_mul]
theorem bits_len : ∀ n w, (bitsN n w).length = n
  | 0, _ => rfl
  | n + 1, w => by rw [bitsN, List.length_cons, bits_len n]
theorem num_bits : ∀ n w, numN (bitsN n w) = w % 2 ^ n
  | 0, w => by rw [bitsN, numN, Nat.pow_zero, Nat.mod_one]
  | n + 1, w => by rw [bitsN, numN, num_bits n, mod_s]
theorem bits_lt : ∀ n w, ∀ b ∈ bitsN n w, b < 2
  | 0, _, b, h => by simp [bitsN] at h
  | n + 1, w, b, h => by
    rw [bitsN, List.mem_cons] at h
    rcases h with rfl | h
    · exact Nat.mod_lt _ (by decide)
    · exact bits_lt n _ b h
theorem num_app : ∀ (xs ys : List Nat), numN (xs ++ ys) = numN xs + 2 ^ xs.length * numN ys
  | [], ys => by simp [numN]
  | x :: xs, ys => by
    rw [List.cons_append, numN, numN, num_app xs, List.length_cons, pow_s, Nat.mul_add, Nat.mul_assoc, Nat.add_assoc]
theorem bits_inj {n a b : Nat} (ha : a < 2 ^ n) (hb : b < 2 ^ n) (h : bitsN n a = bitsN n b) : a = b := by
  have e := congrArg numN h
  rw [num_bits, num_bits, Nat.mod_eq_of_lt ha, Nat.mod_eq_of_lt hb] at e
  exact e
/-- sign by sign -/
theorem zip_num (f : Nat → Nat → Nat) (g : Nat → Nat → Nat) (h2 : ∀ a b, g a b / 2 = g (a / 2) (b / 2)) (h1 : ∀ a b, g a b % 2 = f (a % 2) (b % 2)) :
    ∀ n a b, numN (List.zipWith f (bitsN n a) (bitsN n b)) = g a b % 2 ^ n
  | 0, a, b => by rw [bitsN, bitsN, List.zipWith_nil_left, numN, Nat.pow_zero, Nat.mod_one]
  | n + 1, a, b => by rw [bitsN, bitsN, List.zipWith_cons_cons, numN, zip_num f g h2 h1 n, mod_s, h2, h1]
theorem lt2 {f : Nat → Nat → Nat} {g : Nat → Nat → Nat} (h : ∀ i, i < 2 → ∀ j, j < 2 → g i j = f i j) (a b : Nat) : g (a % 2) (b % 2) = f (a % 2) (b % 2) := h _ (Nat.mod_lt _ (by decide)) _ (Nat.mod_lt _ (by decide))
theorem and2 (a b : Nat) : (a &&& b) % 2 = a % 2 * (b % 2) := by
  have e : (a &&& b) % 2 = (a % 2 &&& b % 2) := by
    have := Nat.and_mod_two_pow (a := a) (b := b) (n := 1)
    simpa using this
  rw [e]
  exact lt2 (f := fun i j => i * j) (g := fun i j => i &&& j) (by decide) a b
theorem or2 (a b : Nat) : (a ||| b) % 2 = max (a % 2) (b % 2) := by
  have e : (a ||| b) % 2 = (a % 2 ||| b % 2) := by
    have := Nat.or_mod_two_pow (a := a) (b := b) (n := 1)
    simpa using this
  rw [e]
  exact lt2 (f := fun i j => max i j) (g := fun i j => i ||| j) (by decide) a b
theorem xor2 (a b : Nat) : (a ^^^ b) % 2 = (a % 2 + b % 2) % 2 := by
  have e : (a ^^^ b) % 2 = (a % 2 ^^^ b % 2) := by
    have := Nat.xor_mod_two_pow (a := a) (b := b) (n := 1)
    simpa using this
  rw [e]
  exact lt2 (f := fun i j => (i + j) % 2) (g := fun i j => i ^^^ j) (by decide) a b
theorem num_and (n a b : Nat) : numN (List.zipWith (fun i j => i * j) (bitsN n a) (bitsN n b)) = (a &&& b) % 2 ^ n := zip_num _ (fun a b => a &&& b) (fun a b => Nat.and_div_two) and2 n a b
theorem num_or (n a b : Nat) : numN (List.zipWith (fun i j => max i j) (bitsN n a) (bitsN n b)) = (a ||| b) % 2 ^ n := zip_num _ (fun a b => a ||| b) (fun a b => Nat.or_div_two) or2 n a b
theorem num_xor (n a b : Nat) : numN (List.zipWith (fun i j => (i + j) % 2) (bitsN n a) (bitsN n b)) = (a ^^^ b) % 2 ^ n := zip_num _ (fun a b => a ^^^ b) (fun a b => Nat.xor_div_two) xor2 n a b
/-- what goes over -/
def sumN : Nat → List Nat → List Nat → List Nat
  | c, x :: xs, y :: ys => ((x + y + c) % 2) :: sumN ((x + y + c) / 2) xs ys
  | _, _, _ => []
theorem num_sum : ∀ n a b c, numN (sumN c (bitsN n a) (bitsN n b)) = (a + b + c) % 2 ^ n
  | 0, a, b, c => by rw [bitsN, bitsN, sumN, numN, Nat.pow_zero, Nat.mod_one] <;> simp
  | n + 1, a, b, c => by
    rw [bitsN, bitsN, sumN, numN, num_sum n, mod_s]
    have e1 : (a + b + c) % 2 = (a % 2 + b % 2 + c) % 2 := by omega
    have e2 : (a + b + c) / 2 = a / 2 + b / 2 + (a % 2 + b % 2 + c) / 2 := by omega
    rw [e1, e2]
theorem flip_bits : ∀ n b, (bitsN n b).map (fun x => 1 - x) = bitsN n (2 ^ n - 1 - b % 2 ^ n)
  | 0, _ => rfl
  | n + 1, b => by
    have h := mod_s b n
    have p := pow_s n
    have q : b / 2 % 2 ^ n < 2 ^ n := Nat.mod_lt _ (Nat.two_pow_pos n)
    rw [bitsN, bitsN, List.map_cons, flip_bits n]
    have e1 : 1 - b % 2 = (2 ^ (n + 1) - 1 - b % 2 ^ (n + 1)) % 2 := by omega
    have e2 : 2 ^ n - 1 - b / 2 % 2 ^ n = (2 ^ (n + 1) - 1 - b % 2 ^ (n + 1)) / 2 := by omega
    rw [e1, e2]
theorem num_sub (n a b : Nat) (hb : b < 2 ^ n) : numN (sumN 1 (bitsN n a) ((bitsN n b).map fun x => 1 - x)) = (a + (2 ^ n - b)) % 2 ^ n := by
  rw [flip_bits, num_sum, Nat.mod_eq_of_lt hb]
  congr 1
  omega
theorem num_flip (n a : Nat) (ha : a < 2 ^ n) : numN ((bitsN n a).map fun x => 1 - x) = 2 ^ n - 1 - a := by
  rw [flip_bits, num_bits, Nat.mod_eq_of_lt ha, Nat.mod_eq_of_lt (by omega)]
/-- the top bit -/
theorem bits_top : ∀ n w, bitsN (n + 1) w = bitsN n w ++ [w / 2 ^ n % 2]
  | 0, w => by simp [bitsN]
  | n + 1, w => by
    rw [bitsN, bits_top n, bitsN, List.cons_append, Nat.div_div_eq_div_mul, pow_s]
def fd : List (Nat × Nat) → Nat
  | [] => 0
  | p :: t => if p.1 = p.2 then fd t else if p.1 < p.2 then 1 else 0
theorem fd_bits : ∀ n a b, fd (List.zip (bitsN n a).reverse (bitsN n b).reverse) = if a % 2 ^ n < b % 2 ^ n then 1 else 0
  | 0, a, b => by simp [bitsN, fd, Nat.mod_one]
  | n + 1, a, b => by
    rw [bits_top, bits_top, List.reverse_append, List.reverse_append]
    show fd ((a / 2 ^ n % 2, b / 2 ^ n % 2) :: List.zip (bitsN n a).reverse (bitsN n b).reverse) = _
    have ea : a % 2 ^ (n + 1) = a % 2 ^ n + 2 ^ n * (a / 2 ^ n % 2) := by rw [Nat.pow_succ, Nat.mod_mul]
    have eb : b % 2 ^ (n + 1) = b % 2 ^ n + 2 ^ n * (b / 2 ^ n % 2) := by rw [Nat.pow_succ, Nat.mod_mul]
    have la : a % 2 ^ n < 2 ^ n := Nat.mod_lt _ (Nat.two_pow_pos n)
    have lb : b % 2 ^ n < 2 ^ n := Nat.mod_lt _ (Nat.two_pow_pos n)
    have ta := Nat.mod_two_eq_zero_or_one (a / 2 ^ n)
    have tb := Nat.mod_two_eq_zero_or_one (b / 2 ^ n)
    rw [fd, fd_bits n, ea, eb]
    rcases ta with ta | ta <;> rcases tb with tb | tb <;> rw [ta, tb] <;> simp
    · omega
    · omega
theorem bits_drop : ∀ k n w, (bitsN n w).drop k = bitsN (n - k) (w / 2 ^ k)
  | 0, n, w => by simp
  | k + 1, 0, w => by simp [bitsN]
  | k + 1, n + 1, w => by
    rw [bitsN, List.drop_succ_cons, bits_drop k n, Nat.div_div_eq_div_mul, pow_s, Nat.add_sub_add_right]
theorem bits_take : ∀ k n w, (bitsN n w).take k = bitsN (min k n) w
  | 0, n, w => by simp [bitsN]
  | k + 1, 0, w => by simp [bitsN]
  | k + 1, n + 1, w => by
    rw [bitsN, List.take_succ_cons, bits_take k n, Nat.add_min_add_right, bitsN]
theorem num_cut (n a low many : Nat) (ha : a < 2 ^ n) : numN (((bitsN n a).drop low).take many) = a / 2 ^ low % 2 ^ many := by
  rw [bits_drop, bits_take, num_bits]
  by_cases h : many ≤ n - low
  · rw [Nat.min_eq_left h]
  · have h2 : n - low ≤ many := by omega
    rw [Nat.min_eq_right h2]
    have l1 : a / 2 ^ low < 2 ^ (n - low) := by
      by_cases hl : low ≤ n
      · rw [Nat.div_lt_iff_lt_mul (Nat.two_pow_pos low), ← Nat.pow_add]
        rw [show n - low + low = n by omega]
        exact ha
      · have : a < 2 ^ low := Nat.lt_of_lt_of_le ha (Nat.pow_le_pow_right (by decide) (by omega))
        rw [Nat.div_eq_of_lt this]
        exact Nat.two_pow_pos _
    rw [Nat.mod_eq_of_lt l1, Nat.mod_eq_of_lt (Nat.lt_of_lt_of_le l1 (Nat.pow_le_pow_right (by decide) h2))]
theorem num_ones (n : Nat) : numN (List.replicate n 1) = 2 ^ n - 1 := by
  induction n with
  | zero => rfl
  | succ n ih =>
    have p := Nat.two_pow_pos n
    rw [List.replicate_succ, numN, ih, pow_s]
    omega
end M01

set_option Elab.async false
set_option linter.all false
set_option maxRecDepth 100000
set_option maxHeartbeats 4000000
namespace K01
open PySem PySem.Spec PyProof.Rows L2 Z
open Evl (Ex ex_l ex_t sq_of st_of fresh_back RetL RetV)
local macro_rules | `(tactic| walk_at "zc") => `(tactic| first
  | (show (0 : Int) < _; omega)
  | exact ⟨by decide, by decide⟩
  | exact Or.inl ⟨by decide, by decide⟩
  | exact Or.inr ⟨by decide, by decide⟩
  | exact ⟨by decide, by decide, by decide⟩
  | exact Or.inl ⟨by omega, by omega⟩
  | exact Or.inr ⟨by omega, by omega⟩)
local macro_rules | `(tactic| walk_at "sq") => `(tactic| first
  | assumption
  | exact sq_of (by assumption)
  | exact sq_of upd_same
  | exact st_of (by assumption)
  | exact st_of upd_same
  | (refine ex_l (by assumption) ?_; walk_at "sq")
  | (refine ex_t (by assumption) ?_; walk_at "sq")
  | (refine ex_l (Ex.new (by assumption)) ?_; walk_at "sq")
  | (refine ex_t (Ex.new (by assumption)) ?_; walk_at "sq"))
local macro_rules | `(tactic| walk_at "ex") => `(tactic| first
  | exact Ex.refl _
  | assumption
  | (refine Ex.trans ?_ (Ex.new (by assumption)); walk_at "ex")
  | ((refine' Ex.trans ?_ ?zx); (case zx => assumption); walk_at "ex"))
local macro_rules | `(tactic| walk_at "z1") => `(tactic| first
  | with_reducible exact trivial
  | with_reducible refine z_seq ?_
  | with_reducible refine z_asg ?_
  | with_reducible refine z_ret ?_
  | with_reducible refine z_ifs ?_
  | with_reducible refine z_op ?_
  | with_reducible refine z_c ?_
  | ((with_reducible refine' z_var ?zh ?_); (case zh => exact rfl))
  | with_reducible refine z_i0 ?_
  | with_reducible refine z_gname ?_
  | ((with_reducible refine z_i ?zh ?_); (case zh => walk_at "zc"))
  | with_reducible refine z_next ?_
  | with_reducible refine z_test ?_
  | with_reducible refine z_tB ?_
  | with_reducible refine z_bl ?_
  | ((with_reducible refine z_eq ?zh ?_); (case zh => rfl))
  | ((with_reducible refine z_ne ?zh ?_); (case zh => rfl))
  | with_reducible refine z_cons ?_
  | with_reducible refine z_nil ?_
  | with_reducible refine z_call ?_
  | with_reducible refine z_cb ?_
  | with_reducible refine z_lst ?_
  | with_reducible refine z_tup ?_
  | with_reducible refine z_un ?_
  | with_reducible refine z_u ?_
  | with_reducible refine z_if ?_
  | with_reducible refine z_andT ?_
  | with_reducible refine z_orT ?_
  | with_reducible refine z_notT ?_
  | with_reducible refine z_trub ?_
  | with_reducible refine z_trui ?_
  | with_reducible refine z_trun ?_
  | with_reducible refine z_tru ?_
  | with_reducible refine z_and ?_
  | with_reducible refine z_or ?_
  | with_reducible refine z_not ?_
  | with_reducible refine z_yes ?_
  | with_reducible refine z_isN ?_
  | with_reducible refine z_notN ?_
  | with_reducible refine z_chain ?_
  | with_reducible refine z_int1 ?_
  | with_reducible refine z_intb ?_
  | with_reducible refine z_max2 ?_
  | with_reducible refine z_min2 ?_
  | with_reducible refine z_revL ?_
  | with_reducible refine z_nopart ?_
  | with_reducible refine z_part ?_
  | with_reducible refine z_part1 ?_
  | with_reducible refine z_sl ?_
  | with_reducible refine z_drop ?_
  | with_reducible refine z_bm ?_
  | with_reducible refine z_bm0 ?_
  | with_reducible refine z_tys ?_
  | with_reducible refine z_brk ?_
  | with_reducible refine z_cont ?_
  | with_reducible refine z_retN ?_
  | with_reducible refine z_fl ?_
  | with_reducible refine z_ft ?_
  | with_reducible refine z_fs ?_
  | with_reducible refine z_fr1 ?_
  | with_reducible refine z_fr2 ?_
  | with_reducible refine z_fz ?_
  | with_reducible refine z_fe ?_
  | with_reducible refine z_cl ?_
  | with_reducible refine z_cs ?_
  | with_reducible refine z_cr1 ?_
  | with_reducible refine z_crv ?_
  | with_reducible refine z_isbl ?_
  | with_reducible refine z_notbl ?_
  | with_reducible refine ite_t ?_
  | with_reducible refine ite_f ?_
  | ((with_reducible refine' z_aug ?zh ?_); (case zh => exact rfl))
  | with_reducible refine z_ipi ?_)
local macro_rules | `(tactic| walk_at "zz") => `(tactic| repeat walk_at "z1")

open M01
def ib (l : List Nat) : List V := l.map fun (b : Nat) => V.int (b : Int)
theorem ib_len (l : List Nat) : (ib l).length = l.length := by unfold ib; rw [List.length_map]
def two (s : Str) (n x y : Nat) : Nat :=
  if s = "&" then x &&& y else if s = "|" then x ||| y else if s = "^" then x ^^^ y else if s = "+" then (x + y) % 2 ^ n
  else if s = "-" then (x + (2 ^ n - y)) % 2 ^ n else if s = "==" then (if x = y then 1 else 0) else if x < y then 1 else 0
def seven : List Str := ["&", "|", "^", "+", "-", "==", "<"]
def sp_L_mixed : Sp := fun vs H Q _ => ∃ c k : Int, vs = [.int c, .int k] ∧ (0 ≤ k ∧ k ≤ 100) ∧ ∀ m : Int, 0 ≤ m → m < 2147483629 → RetV (.int m) H Q
def sp_L_whole : Sp := fun vs H Q _ => ∃ i : Int, vs = [.int i] ∧ RetV (.bl true) H Q
def sp_L_width : Sp := fun vs H Q _ => ∃ c : Int, vs = [.int c] ∧ 0 ≤ c ∧ ∀ w : Nat, 1 ≤ w → w ≤ 64 → RetV (.int (w : Int)) H Q
def sp_L_word : Sp := fun vs H Q _ => ∃ (c : Int) (w : Nat), vs = [.int c, .int (w : Int)] ∧ (0 ≤ c ∧ c < 2147483629 ∧ 1 ≤ w ∧ w ≤ 64) ∧ ∀ v : Nat, v < 2 ^ w → RetV (.int (v : Int)) H Q
def sp_L_bits : Sp := fun vs H Q _ => ∃ x n : Nat, vs = [.int (x : Int), .int (n : Int)] ∧ n ≤ 64 ∧ RetL (ib (bitsN n x)) H Q
def sp_L_number (K : PySem.W.Frag) : Sp := fun vs H Q _ => ∃ (a : Addr) (l : List Nat), vs = [.ref a] ∧ SqL K H a (ib l) ∧ RetV (.int (numN l : Int)) H Q
def sp_L_sum (K : PySem.W.Frag) : Sp := fun vs H Q _ => ∃ (a b : Addr) (l m : List Nat) (t : Nat), vs = [.ref a, .ref b, .int (t : Int)] ∧ SqL K H a (ib l) ∧ SqL K H b (ib m) ∧ l.length = m.length ∧ l.length ≤ 100 ∧ t < 2 ∧ (∀ x ∈ m, x < 2) ∧
  RetL (ib (sumN t l (if t = 1 then m.map (fun x => 1 - x) else m))) H Q
def sp_L_less (K : PySem.W.Frag) : Sp := fun vs H Q _ => ∃ (a b : Addr) (l m : List Nat), vs = [.ref a, .ref b] ∧ SqL K H a (ib l) ∧ SqL K H b (ib m) ∧ l.length = m.length ∧ RetV (.int (fd (List.zip l.reverse m.reverse) : Int)) H Q
def sp_L_two (K : PySem.W.Frag) : Sp := fun vs H Q _ => ∃ (s : Str) (a b : Addr) (n x y : Nat), vs = [.str s, .ref a, .ref b] ∧ SqL K H a (ib (bitsN n x)) ∧ SqL K H b (ib (bitsN n y)) ∧ n ≤ 64 ∧ x < 2 ^ n ∧ y < 2 ^ n ∧ s ∈ seven ∧ RetV (.int (two s n x y : Int)) H Q
def sp_top_of : Sp := fun vs H Q _ => ∃ n : Nat, vs = [.int (n : Int)] ∧ n ≤ 64 ∧ RetV (.int ((2 ^ n - 1 : Nat) : Int)) H Q
def sp_two_words : Sp := fun vs H Q _ => ∃ (s : Str) (n x y : Nat), vs = [.str s, .int (x : Int), .int (y : Int), .int (n : Int)] ∧ n ≤ 64 ∧ x < 2 ^ n ∧ y < 2 ^ n ∧ s ∈ seven ∧ RetV (.int (two s n x y : Int)) H Q
def sp_turned : Sp := fun vs H Q _ => ∃ n x : Nat, vs = [.int (x : Int), .int (n : Int)] ∧ n ≤ 64 ∧ x < 2 ^ n ∧ RetV (.int ((2 ^ n - 1 - x : Nat) : Int)) H Q
def sp_cut_word : Sp := fun vs H Q _ => ∃ x low many : Nat, vs = [.int (x : Int), .int (low : Int), .int (many : Int)] ∧ low ≤ 63 ∧ many ≤ 64 ∧ RetV (.int ((x / 2 ^ low % 2 ^ many : Nat) : Int)) H Q
def sp_joined_words : Sp := fun vs H Q _ => ∃ h l n : Nat, vs = [.int (h : Int), .int (l : Int), .int (n : Int)] ∧ n ≤ 64 ∧ l < 2 ^ n ∧ h < 2 ^ 64 ∧ RetV (.int ((l + 2 ^ n * h : Nat) : Int)) H Q
def sp_L_right : Sp := fun vs H Q _ => ∃ c : Int, vs = [.int c] ∧ (0 ≤ c ∧ c < 1000000007) ∧ RetV (.bl true) H Q
def sp_law (K : PySem.W.Frag) : Sp := fun vs H Q _ => ∃ (a : Addr) (ns : List Int), vs = [.ref a] ∧ SqL K H a (ns.map V.int) ∧ ns.length ≤ 63 ∧ RetV (.bl true) H Q

theorem len_L_width : ∀ vs H Q E, sp_L_width vs H Q E → vs.length = 1 := by
  intro vs H Q E h
  obtain ⟨_, rfl, _⟩ := h
  rfl
theorem len_L_mixed : ∀ vs H Q E, sp_L_mixed vs H Q E → vs.length = 2 := by
  intro vs H Q E h
  obtain ⟨_, _, rfl, _⟩ := h
  rfl
theorem len_L_word : ∀ vs H Q E, sp_L_word vs H Q E → vs.length = 2 := by
  intro vs H Q E h
  obtain ⟨_, _, rfl, _⟩ := h
  rfl
theorem len_L_bits : ∀ vs H Q E, sp_L_bits vs H Q E → vs.length = 2 := by
  intro vs H Q E h
  obtain ⟨_, _, rfl, _⟩ := h
  rfl
theorem len_L_number {K : PySem.W.Frag} : ∀ vs H Q E, sp_L_number K vs H Q E → vs.length = 1 := by
  intro vs H Q E h
  obtain ⟨_, _, rfl, _⟩ := h
  rfl
theorem len_L_whole : ∀ vs H Q E, sp_L_whole vs H Q E → vs.length = 1 := by
  intro vs H Q E h
  obtain ⟨_, rfl, _⟩ := h
  rfl
theorem len_top_of : ∀ vs H Q E, sp_top_of vs H Q E → vs.length = 1 := by
  intro vs H Q E h
  obtain ⟨_, rfl, _⟩ := h
  rfl
theorem len_two_words : ∀ vs H Q E, sp_two_words vs H Q E → vs.length = 4 := by
  intro vs H Q E h
  obtain ⟨_, _, _, _, rfl, _⟩ := h
  rfl
theorem len_L_sum {K : PySem.W.Frag} : ∀ vs H Q E, sp_L_sum K vs H Q E → vs.length = 3 := by
  intro vs H Q E h
  obtain ⟨_, _, _, _, _, rfl, _⟩ := h
  rfl
theorem len_L_less {K : PySem.W.Frag} : ∀ vs H Q E, sp_L_less K vs H Q E → vs.length = 2 := by
  intro vs H Q E h
  obtain ⟨_, _, _, _, rfl, _⟩ := h
  rfl
theorem len_L_two {K : PySem.W.Frag} : ∀ vs H Q E, sp_L_two K vs H Q E → vs.length = 3 := by
  intro vs H Q E h
  obtain ⟨_, _, _, _, _, _, rfl, _⟩ := h
  rfl
theorem len_turned : ∀ vs H Q E, sp_turned vs H Q E → vs.length = 2 := by
  intro vs H Q E h
  obtain ⟨_, _, rfl, _⟩ := h
  rfl
theorem len_cut_word : ∀ vs H Q E, sp_cut_word vs H Q E → vs.length = 3 := by
  intro vs H Q E h
  obtain ⟨_, _, _, rfl, _⟩ := h
  rfl
theorem len_joined_words : ∀ vs H Q E, sp_joined_words vs H Q E → vs.length = 3 := by
  intro vs H Q E h
  obtain ⟨_, _, _, rfl, _⟩ := h
  rfl
theorem len_L_right : ∀ vs H Q E, sp_L_right vs H Q E → vs.length = 1 := by
  intro vs H Q E h
  obtain ⟨_, rfl, _⟩ := h
  rfl
theorem len_law {K : PySem.W.Frag} : ∀ vs H Q E, sp_law K vs H Q E → vs.length = 1 := by
  intro vs H Q E h
  obtain ⟨_, _, rfl, _⟩ := h
  rfl

/-- L_width -/
def rd_L_width (K : PySem.W.Frag) : TS :=
  (tRet (tOp (rIxL K) (tLst (tCons (tC (.int 1)) (tCons (tC (.int 64)) (tCons (tC (.int 2)) (tCons (tC (.int 63)) (tCons (tOp rAddI (tC (.int 1)) (tOp rModI (tOp rDivI (tVar 0) (tC (.int 7))) (tC (.int 64)))) (tCons (tOp rAddI (tC (.int 1)) (tOp rModI (tOp rDivI (tVar 0) (tC (.int 7))) (tC (.int 64)))) (tCons (tOp rAddI (tC (.int 1)) (tOp rModI (tOp rDivI (tVar 0) (tC (.int 7))) (tC (.int 9)))) tNil)))))))) (tOp rModI (tVar 0) (tC (.int 7)))))


/-- L_mixed -/
def rd_L_mixed : TS :=
  (tSeq (tAsg (tOp rModI (tOp rMulI (tOp rAddI (tOp rAddI (tOp rModI (tVar 0) (tC (.int 1000000007))) (tOp rMulI (tOp rMulI (tC (.int 31)) (tVar 1)) (tVar 1))) (tC (.int 7))) (tC (.int 48271))) (tC (.int 2147483647))) (gName 2))
    (tRet (tOp rModI (tOp rMulI (tVar 2) (tOp rAddI (tC (.int 16807)) (tOp rMulI (tC (.int 7919)) (tVar 1)))) (tC (.int 2147483629)))))


/-- L_word -/
def rd_L_word (K : PySem.W.Frag) : TS :=
  (tSeq (tAsg (tOp rSubI (tOp rShlI (tC (.int 1)) (tVar 1)) (tC (.int 1))) (gName 2))
    (tSeq (tAsg (tOp rMulI (tOp rDivI (tVar 0) (tC (.int 6))) (tOp rPowI (tC (.int 48271)) (tC (.int 7)))) (gName 3))
    (tSeq (tAsg (tOp rShlI (tC (.int 1)) (tOp rModI (tOp rDivI (tVar 0) (tC (.int 6))) (tVar 1))) (gName 4))
    (tRet (tOp (rIxL K) (tLst (tCons (tC (.int 0)) (tCons (tC (.int 1)) (tCons (tVar 2) (tCons (tVar 4) (tCons (tOp rSubI (tVar 4) (tC (.int 1))) (tCons (tOp rModI (tVar 3) (tOp rAddI (tVar 2) (tC (.int 1)))) tNil))))))) (tOp rModI (tVar 0) (tC (.int 6))))))))


/-- L_bits -/
def rd_L_bits (K : PySem.W.Frag) : TS :=
  (tSeq (tAsg (tLst tNil) (gName 2))
    (tSeq (tFor (iRng1 (tCons (tVar 1) tNil)) (gName 3) (tSeq (tDrop (tBM K "list" rAppend (tVar 2) (tCons (tOp rModI (tVar 0) (tC (.int 2))) tNil)))
    (tAsg (tOp rDivI (tVar 0) (tC (.int 2))) (gName 0))))
    (tRet (tVar 2))))


/-- L_number -/
def rd_L_number (K : PySem.W.Frag) : TS :=
  (tSeq (tAsg (tC (.int 0)) (gName 1))
    (tSeq (tFor (iList K (tRevL K (tVar 0))) (gName 2) (tAsg (tOp rAddI (tOp rMulI (tC (.int 2)) (tVar 1)) (tVar 2)) (gName 1)))
    (tRet (tVar 1))))


/-- L_whole -/
def rd_L_whole (K : PySem.W.Frag) : TS :=
  (tRet (tAndT K (tCB (rIsi K) (tCons (tVar 0) (tCons (tC (.ty "int")) tNil))) (tNotT K (tCB (rIsi K) (tCons (tVar 0) (tCons (tC (.ty "bool")) tNil))))))


/-- top_of -/
def rd_top_of : TS :=
  (tRet (tOp rSubI (tOp rShlI (tC (.int 1)) (tVar 0)) (tC (.int 1))))


/-- two_words -/
def rd_two_words : TS :=
  (tSeq (tIfS (tTest (tOp rEq (tVar 0) (tC (.str "&")))) (tRet (tOp rAndI (tVar 1) (tVar 2)))
    tNext)
    (tSeq (tIfS (tTest (tOp rEq (tVar 0) (tC (.str "|")))) (tRet (tOp rOrI (tVar 1) (tVar 2)))
    tNext)
    (tSeq (tIfS (tTest (tOp rEq (tVar 0) (tC (.str "^")))) (tRet (tOp rXorI (tVar 1) (tVar 2)))
    tNext)
    (tSeq (tIfS (tTest (tOp rEq (tVar 0) (tC (.str "+")))) (tRet (tOp rAndI (tOp rAddI (tVar 1) (tVar 2)) (tCall sp_top_of [] E0 (tCons (tVar 3) tNil))))
    tNext)
    (tSeq (tIfS (tTest (tOp rEq (tVar 0) (tC (.str "-")))) (tRet (tOp rAndI (tOp rSubI (tVar 1) (tVar 2)) (tCall sp_top_of [] E0 (tCons (tVar 3) tNil))))
    tNext)
    (tSeq (tIfS (tTest (tOp rEq (tVar 0) (tC (.str "==")))) (tRet (tIf (tTest (tOp rEq (tVar 1) (tVar 2))) (tC (.int 1)) (tC (.int 0))))
    tNext)
    (tRet (tIf (tTest (tOp rLtI (tVar 1) (tVar 2))) (tC (.int 1)) (tC (.int 0))))))))))


/-- L_sum -/
def rd_L_sum (K : PySem.W.Frag) : TS :=
  (tSeq (tAsg (tLst tNil) (gName 3))
    (tSeq (tAsg (tVar 2) (gName 4))
    (tSeq (tFor (iZip K (tCons (tVar 0) (tCons (tVar 1) tNil))) (gTup K 2 (gCons (gName 5) (gCons (gName 6) gNil))) (tSeq (tAsg (tOp rAddI (tOp rAddI (tVar 5) (tIf (tTest (tOp rEq (tVar 2) (tC (.int 1)))) (tOp rSubI (tC (.int 1)) (tVar 6)) (tVar 6))) (tVar 4)) (gName 7))
    (tSeq (tDrop (tBM K "list" rAppend (tVar 3) (tCons (tOp rModI (tVar 7) (tC (.int 2))) tNil)))
    (tAsg (tOp rDivI (tVar 7) (tC (.int 2))) (gName 4)))))
    (tRet (tVar 3)))))


/-- L_less -/
def rd_L_less (K : PySem.W.Frag) : TS :=
  (tSeq (tFor (iZip K (tCons (tRevL K (tVar 0)) (tCons (tRevL K (tVar 1)) tNil))) (gTup K 2 (gCons (gName 2) (gCons (gName 3) gNil))) (tIfS (tTest (tOp rNe (tVar 2) (tVar 3))) (tRet (tCB cInt1 (tCons (tOp rLtI (tVar 2) (tVar 3)) tNil)))
    tNext))
    (tRet (tC (.int 0))))


/-- L_two -/
def rd_L_two (K : PySem.W.Frag) : TS :=
  (tSeq (tIfS (tOr (tTest (tOp rEq (tVar 0) (tC (.str "+")))) (tTest (tOp rEq (tVar 0) (tC (.str "-"))))) (tRet (tCall (sp_L_number K) [] E0 (tCons (tCall (sp_L_sum K) [] E0 (tCons (tVar 1) (tCons (tVar 2) (tCons (tCB cInt1 (tCons (tOp rEq (tVar 0) (tC (.str "-"))) tNil)) tNil)))) tNil)))
    tNext)
    (tSeq (tIfS (tTest (tOp rEq (tVar 0) (tC (.str "==")))) (tRet (tCB cInt1 (tCons (tOp (rEqD K) (tVar 1) (tVar 2)) tNil)))
    tNext)
    (tSeq (tIfS (tTest (tOp rEq (tVar 0) (tC (.str "<")))) (tRet (tCall (sp_L_less K) [] E0 (tCons (tVar 1) (tCons (tVar 2) tNil))))
    tNext)
    (tSeq (tAsg (tLst tNil) (gName 3))
    (tSeq (tFor (iZip K (tCons (tVar 1) (tCons (tVar 2) tNil))) (gTup K 2 (gCons (gName 4) (gCons (gName 5) gNil))) (tDrop (tBM K "list" rAppend (tVar 3) (tCons (tOp (rIxL K) (tLst (tCons (tOp rMulI (tVar 4) (tVar 5)) (tCons (tCB cMax2 (tCons (tVar 4) (tCons (tVar 5) tNil))) (tCons (tOp rModI (tOp rAddI (tVar 4) (tVar 5)) (tC (.int 2))) tNil)))) (tBM K "str" rIndexS (tC (.str "&|^")) (tCons (tVar 0) tNil))) tNil))))
    (tRet (tCall (sp_L_number K) [] E0 (tCons (tVar 3) tNil))))))))


/-- turned -/
def rd_turned : TS :=
  (tRet (tOp rXorI (tVar 0) (tCall sp_top_of [] E0 (tCons (tVar 1) tNil))))


/-- cut_word -/
def rd_cut_word : TS :=
  (tRet (tOp rAndI (tOp rShrI (tVar 0) (tVar 1)) (tCall sp_top_of [] E0 (tCons (tVar 2) tNil))))


/-- joined_words -/
def rd_joined_words : TS :=
  (tRet (tOp rOrI (tOp rShlI (tVar 0) (tVar 2)) (tVar 1)))


/-- L_right -/
def rd_L_right (K : PySem.W.Frag) : TS :=
  (tSeq (tAsg (tCall sp_L_width [] E0 (tCons (tVar 0) tNil)) (gName 1))
    (tSeq (tAsg (tCall sp_L_mixed [] E0 (tCons (tVar 0) (tCons (tC (.int 1)) tNil))) (gName 2))
    (tSeq (tAsg (tCall sp_L_word [] E0 (tCons (tVar 2) (tCons (tVar 1) tNil))) (gName 3))
    (tSeq (tAsg (tCall sp_L_word [] E0 (tCons (tCall sp_L_mixed [] E0 (tCons (tVar 0) (tCons (tC (.int 2)) tNil))) (tCons (tVar 1) tNil))) (gName 4))
    (Evl.tCut (tIfS (tTest (tOp rEq (tOp rModI (tOp rDivI (tVar 2) (tC (.int 400))) (tC (.int 7))) (tC (.int 0)))) (tAsg (tVar 3) (gName 4))
    tNext)
    (tSeq (tAsg (tCall sp_L_bits [] E0 (tCons (tVar 3) (tCons (tVar 1) tNil))) (gName 5))
    (tSeq (tAsg (tCall (sp_L_number K) [] E0 (tCons (tOp rRep (tLst (tCons (tC (.int 1)) tNil)) (tVar 1)) tNil)) (gName 6))
    (tSeq (tIfS (tOr (tNot (tTru K (tCall sp_L_whole [] E0 (tCons (tCall sp_top_of [] E0 (tCons (tVar 1) tNil)) tNil)))) (tTest (tOp rNe (tCall sp_top_of [] E0 (tCons (tVar 1) tNil)) (tVar 6)))) (tRet (tC (.bl false)))
    tNext)
    (tSeq (tAsg (tOp rModI (tCall sp_L_mixed [] E0 (tCons (tVar 0) (tCons (tC (.int 3)) tNil))) (tC (.int 10))) (gName 7))
    (tSeq (tIfS (tTest (tOp rLtI (tVar 7) (tC (.int 7)))) (tSeq (tAsg (tOp (rIxL K) (tLst (tCons (tC (.str "&")) (tCons (tC (.str "|")) (tCons (tC (.str "^")) (tCons (tC (.str "+")) (tCons (tC (.str "-")) (tCons (tC (.str "==")) (tCons (tC (.str "<")) tNil)))))))) (tVar 7)) (gName 8))
    (tSeq (tAsg (tCall sp_two_words [] E0 (tCons (tVar 8) (tCons (tVar 3) (tCons (tVar 4) (tCons (tVar 1) tNil))))) (gName 9))
    (tRet (tAndT K (tCall sp_L_whole [] E0 (tCons (tVar 9) tNil)) (tOp rEq (tVar 9) (tCall (sp_L_two K) [] E0 (tCons (tVar 8) (tCons (tVar 5) (tCons (tCall sp_L_bits [] E0 (tCons (tVar 4) (tCons (tVar 1) tNil))) tNil)))))))))
    tNext)
    (tSeq (tIfS (tTest (tOp rEq (tVar 7) (tC (.int 7)))) (tSeq (tAsg (tCall sp_turned [] E0 (tCons (tVar 3) (tCons (tVar 1) tNil))) (gName 9))
    (tRet (tAndT K (tCall sp_L_whole [] E0 (tCons (tVar 9) tNil)) (tOp rEq (tVar 9) (tCall (sp_L_number K) [] E0 (tCons (tLc (iList K (tVar 5)) (gName 12) tYes (tOp rSubI (tC (.int 1)) (tVar 12)) [12]) tNil))))))
    tNext)
    (tSeq (tAsg (tOp rModI (tCall sp_L_mixed [] E0 (tCons (tVar 0) (tCons (tC (.int 4)) tNil))) (tC (.int 64))) (gName 10))
    (tSeq (tAsg (tOp rAddI (tC (.int 1)) (tOp rModI (tCall sp_L_mixed [] E0 (tCons (tVar 0) (tCons (tC (.int 5)) tNil))) (tC (.int 64)))) (gName 11))
    (tSeq (tIfS (tTest (tOp rEq (tVar 7) (tC (.int 8)))) (tSeq (tAsg (tCall sp_cut_word [] E0 (tCons (tVar 3) (tCons (tVar 10) (tCons (tVar 11) tNil)))) (gName 9))
    (tRet (tAndT K (tCall sp_L_whole [] E0 (tCons (tVar 9) tNil)) (tOp rEq (tVar 9) (tCall (sp_L_number K) [] E0 (tCons (tSl (rSlL K) (tVar 5) (tPart (tVar 10)) (tPart (tOp rAddI (tVar 10) (tVar 11)))) tNil))))))
    tNext)
    (tSeq (tAsg (tCall sp_joined_words [] E0 (tCons (tVar 4) (tCons (tVar 3) (tCons (tVar 1) tNil)))) (gName 9))
    (tRet (tAndT K (tCall sp_L_whole [] E0 (tCons (tVar 9) tNil)) (tOp rEq (tVar 9) (tCall (sp_L_number K) [] E0 (tCons (tOp rCat (tVar 5) (tCall sp_L_bits [] E0 (tCons (tVar 4) (tCons (tVar 1) tNil)))) tNil))))))))))))))))))))


/-- law -/
def rd_law (K : PySem.W.Frag) : TS :=
  (tSeq (tIfS (tTest (tOp rNe (tC (.int 64)) (tC (.int 64)))) (tRet (tC (.bl false)))
    tNext)
    (tSeq (tFor (iList K (tOp rCat (tSl (rSlL K) (tVar 0) tNoPart (tPart (tC (.int 63)))) (tLst (tCons (tC (.int 3)) tNil)))) (gName 1) (tIfS (tNot (tTru K (tCall sp_L_right [] E0 (tCons (tOp rModI (tVar 1) (tC (.int 1000000007))) tNil)))) (tRet (tC (.bl false)))
    tNext))
    (tRet (tC (.bl true)))))

section
variable {K : PySem.W.Frag}
theorem pow_cast (n : Nat) : ((2 : Int) ^ n) = ((2 ^ n : Nat) : Int) := by push_cast <;> rfl
theorem vr_top_of (vs H Q E) (h : sp_top_of vs H Q E) : rd_top_of { nx := fun _ H' => Q .non H', rt := Q } (start ["width"] vs) H := by
  obtain ⟨n, rfl, hn, q⟩ := h
  unfold rd_top_of
  walk_at "zz"
  refine z_i (shl_ok (i := 1) (j := n) (n := 1) (by decide) (by omega)) ?_
  walk_at "zz"
  have e : (1 : Int) * 2 ^ (n : Int).toNat - 1 = ((2 ^ n - 1 : Nat) : Int) := by
    rw [Int.toNat_natCast, Int.one_mul, pow_cast]
    have := Nat.two_pow_pos n
    omega
  rw [e]
  exact q.go (Ex.refl H)
theorem vr_L_mixed (vs H Q E) (h : sp_L_mixed vs H Q E) : rd_L_mixed { nx := fun _ H' => Q .non H', rt := Q } (start ["_law_cell", "_law_k", "_law_number_here"] vs) H := by
  obtain ⟨c, k, rfl, hk, q⟩ := h
  unfold rd_L_mixed
  walk_at "zz"
  exact (q _ (Int.emod_nonneg _ (by decide)) (Int.emod_lt_of_pos _ (by decide))).go (Ex.refl H)
theorem vr_L_whole (vs H Q E) (h : sp_L_whole vs H Q E) : rd_L_whole K { nx := fun _ H' => Q .non H', rt := Q } (start ["_law_found"] vs) H := by
  obtain ⟨i, rfl, q⟩ := h
  unfold rd_L_whole
  walk_at "zz"
  refine z_isi (T := "int") (b := true) (U := "int") (.base (.int i)) (kit_ty (by decide +kernel)) ?_
  walk_at "zz"
  refine z_isi (T := "int") (b := false) (U := "bool") (.base (.int i)) (kit_ty (by decide +kernel)) ?_
  walk_at "zz"
  exact q.go (Ex.refl H)
theorem in7 {i : Int} : i % 7 = 0 ∨ i % 7 = 1 ∨ i % 7 = 2 ∨ i % 7 = 3 ∨ i % 7 = 4 ∨ i % 7 = 5 ∨ i % 7 = 6 := by omega
theorem vr_L_width (vs H Q E) (h : sp_L_width vs H Q E) : rd_L_width K { nx := fun _ H' => Q .non H', rt := Q } (start ["_law_cell"] vs) H := by
  obtain ⟨c, rfl, h0, q⟩ := h
  have qi : ∀ x : Int, 1 ≤ x → x ≤ 64 → RetV (.int x) H Q := fun x h1 h2 => by
    have := q x.toNat (by omega) (by omega)
    rwa [Int.toNat_of_nonneg (by omega)] at this
  unfold rd_L_width
  walk_at "zz"
  refine ⟨szl (by simp), fun p hp => ?_⟩
  walk_at "zz"
  rcases in7 (i := c) with e | e | e | e | e | e | e <;> rw [e] <;> refine z_ixL (sq_of upd_same) rfl ((qi _ ?_ ?_).go (Ex.new hp)) <;> omega
theorem vr_L_word (vs H Q E) (h : sp_L_word vs H Q E) : rd_L_word K { nx := fun _ H' => Q .non H', rt := Q } (start ["_law_cell", "_law_width_here", "_law_top", "_law_many", "_law_bit"] vs) H := by
  obtain ⟨c, w, rfl, ⟨h0, h1, h2, h3⟩, q⟩ := h
  have qi : ∀ x : Int, 0 ≤ x → x < ((2 ^ w : Nat) : Int) → RetV (.int x) H Q := fun x h1 h2 => by
    have := q x.toNat (by omega)
    rwa [Int.toNat_of_nonneg (by omega)] at this
  unfold rd_L_word
  walk_at "zz"
  refine z_i (shl_ok (i := 1) (j := w) (n := 1) (by decide) (by omega)) ?_
  walk_at "zz"
  have hb : 0 ≤ c / 6 % (w : Int) ∧ c / 6 % (w : Int) < w := ⟨Int.emod_nonneg _ (by omega), Int.emod_lt_of_pos _ (by omega)⟩
  generalize c / 6 % (w : Int) = b at hb
  obtain ⟨b, rfl⟩ := Int.eq_ofNat_of_zero_le hb.1
  refine z_i (shl_ok (i := 1) (j := b) (n := 1) (by decide) (by omega)) ?_
  walk_at "zz"
  have e1 : (1 : Int) * 2 ^ (w : Int).toNat = ((2 ^ w : Nat) : Int) := by rw [Int.toNat_natCast, Int.one_mul, pow_cast]
  have e2 : (1 : Int) * 2 ^ (b : Int).toNat = ((2 ^ b : Nat) : Int) := by rw [Int.toNat_natCast, Int.one_mul, pow_cast]
  have p1 := Nat.two_pow_pos w
  have p2 := Nat.two_pow_pos b
  have p3 : 2 ^ b < 2 ^ w := Nat.pow_lt_pow_right (by decide) (by omega)
  rw [e1]
  refine z_i (show (0 : Int) < ((2 ^ w : Nat) : Int) - 1 + 1 by omega) ?_
  walk_at "zz"
  rw [e2]
  refine ⟨szl (by simp), fun p hp => ?_⟩
  walk_at "zz"
  have m : ∀ z : Int, 0 ≤ z % (((2 ^ w : Nat) : Int) - 1 + 1) ∧ z % (((2 ^ w : Nat) : Int) - 1 + 1) < ((2 ^ w : Nat) : Int) := fun z => ⟨Int.emod_nonneg _ (by omega), by
    have := Int.emod_lt_of_pos z (show (0 : Int) < ((2 ^ w : Nat) : Int) - 1 + 1 by omega)
    omega⟩
  have p4 : 2 ≤ 2 ^ w := Nat.le_trans (by decide : 2 ≤ 2 ^ 1) (Nat.pow_le_pow_right (by decide) h2)
  have i6 : c % 6 = 0 ∨ c % 6 = 1 ∨ c % 6 = 2 ∨ c % 6 = 3 ∨ c % 6 = 4 ∨ c % 6 = 5 := by omega
  rcases i6 with e | e | e | e | e | e <;> rw [e]
  · exact z_ixL (sq_of upd_same) rfl ((qi _ (by omega) (by omega)).go (Ex.new hp))
  · exact z_ixL (sq_of upd_same) rfl ((qi _ (by omega) (by omega)).go (Ex.new hp))
  · exact z_ixL (sq_of upd_same) rfl ((qi _ (by omega) (by omega)).go (Ex.new hp))
  · exact z_ixL (sq_of upd_same) rfl ((qi _ (by omega) (by omega)).go (Ex.new hp))
  · exact z_ixL (sq_of upd_same) rfl ((qi _ (by omega) (by omega)).go (Ex.new hp))
  · exact z_ixL (sq_of upd_same) rfl ((qi _ (m _).1 (m _).2).go (Ex.new hp))
theorem bits_take_s (n x i : Nat) (hi : i < n) : (bitsN n x).take (i + 1) = (bitsN n x).take i ++ [x / 2 ^ i % 2] := by
  rw [bits_take, bits_take, Nat.min_eq_left (by omega), Nat.min_eq_left (by omega), bits_top]
theorem vr_L_bits (vs H Q E) (h : sp_L_bits vs H Q E) : rd_L_bits K { nx := fun _ H' => Q .non H', rt := Q } (start ["_law_word_here", "_law_many", "_law_found", "_law_k"] vs) H := by
  obtain ⟨x, n, rfl, hn, q⟩ := h
  unfold rd_L_bits
  walk_at "zz"
  refine ⟨szl (by simp), fun p hp => ?_⟩
  walk_at "zz"
  refine z_FR1 (by omega) (fun i σ' H' => ∃ y, σ' = [some (.int ((x / 2 ^ i : Nat) : Int)), some (.int (n : Int)), some (.ref p), y] ∧ Ex H H' ∧ H' p = some (.lst (ib ((bitsN n x).take i)))) ?_ ?_ ?_
  · refine ⟨none, ?_, Ex.new hp, upd_same⟩
    rw [Nat.pow_zero, Nat.div_one] <;> rfl
  · rintro i σ' H' hi ⟨y, rfl, e, hl⟩
    have hi' : i < n := by omega
    walk_at "zz"
    refine z_tyl (sq_of hl) ?_
    walk_at "zz"
    refine z_rapp hl ?_ ?_
    · rw [ib_len, List.length_take, bits_len]
      exact szlt (by omega)
    walk_at "zz"
    refine ⟨some (.int (i : Int)), ?_, Ex.mut e hp, ?_⟩
    · rw [Nat.pow_succ, ← Nat.div_div_eq_div_mul] <;> rfl
    · rw [upd_same, bits_take_s n x i hi', ib, ib, List.map_append] <;> rfl
  · rintro σ' H' ⟨y, rfl, e, hl⟩
    walk_at "zz"
    rw [Int.toNat_natCast, bits_take, Nat.min_self] at hl
    exact q p H' hp e hl
theorem num_rev (l : List Nat) (i : Nat) (hi : i < l.length) (v : Nat) (hv : l.reverse[i]? = some v) : numN (l.drop (l.length - (i + 1))) = v + 2 * numN (l.drop (l.length - i)) := by
  have h1 : l.length - (i + 1) < l.length := by omega
  rw [List.getElem?_reverse hi, List.getElem?_eq_getElem (by omega)] at hv
  rw [List.drop_eq_getElem_cons h1, numN]
  have e : l.length - (i + 1) + 1 = l.length - i := by omega
  have e2 : l[l.length - (i + 1)] = v := by
    have := Option.some.inj hv
    rw [← this]
    congr 1
    omega
  rw [e, e2]
theorem ib_get {l : List Nat} {i : Nat} {x : V} (h : (ib l)[i]? = some x) : ∃ v, l[i]? = some v ∧ x = .int (v : Int) := by
  unfold ib at h
  rw [List.getElem?_map] at h
  cases e : l[i]? with
  | none =>
    rw [e] at h
    cases h
  | some v =>
    rw [e] at h
    exact ⟨v, rfl, (Option.some.inj h).symm⟩
theorem ib_rev (l : List Nat) : (ib l).reverse = ib l.reverse := by
  unfold ib
  rw [List.map_reverse]
theorem vr_L_number (vs H Q E) (h : sp_L_number K vs H Q E) : rd_L_number K { nx := fun _ H' => Q .non H', rt := Q } (start ["_law_bits_here", "_law_found", "_law_bit"] vs) H := by
  obtain ⟨a, l, rfl, hS, q⟩ := h
  unfold rd_L_number
  walk_at "zz"
  refine ⟨a, _, rfl, hS, fun p hp => ?_⟩
  rw [ib_rev]
  refine z_FL (xs := ib l.reverse) (sq_of upd_same) (fun i σ' H' => ∃ y, σ' = [some (.ref a), some (.int ((numN (l.drop (l.length - i)) : Nat) : Int)), y] ∧ Ex (upd H p (.lst (ib l.reverse))) H') ?_ ?_ ?_ ?_
  · refine ⟨none, ?_, Ex.refl _⟩
    rw [Nat.sub_zero, List.drop_length] <;> rfl
  · rintro i σ' H' hi ⟨y, rfl, e⟩
    exact sq_of (e p _ upd_same)
  · rintro i x σ' H' hi hx ⟨y, rfl, e⟩
    obtain ⟨v, hv, rfl⟩ := ib_get hx
    rw [ib_len, List.length_reverse] at hi
    walk_at "zz"
    refine ⟨some (.int (v : Int)), ?_, e⟩
    rw [num_rev l i hi v hv, Int.natCast_add, Int.natCast_mul, Int.add_comm] <;> rfl
  · rintro σ' H' ⟨y, rfl, e⟩
    walk_at "zz"
    rw [ib_len, List.length_reverse, Nat.sub_self, List.drop_zero]
    exact q.go ((Ex.new hp).trans e)
theorem sum_len : ∀ (l m : List Nat) (t : Nat), (sumN t l m).length = min l.length m.length
  | [], _, _ => by simp [sumN]
  | _ :: _, [], _ => by simp [sumN]
  | x :: l, y :: m, t => by rw [sumN, List.length_cons, sum_len l m, List.length_cons, List.length_cons, Nat.add_min_add_right]
/-- what goes over behind i places -/
def overN : Nat → Nat → List Nat → List Nat → Nat
  | 0, c, _, _ => c
  | i + 1, c, x :: l, y :: m => overN i ((x + y + c) / 2) l m
  | _ + 1, c, _, _ => c
theorem sum_step : ∀ (i c : Nat) (l m : List Nat) (x y : Nat), l[i]? = some x → m[i]? = some y → (sumN c l m).take (i + 1) = (sumN c l m).take i ++ [(x + y + overN i c l m) % 2] ∧ overN (i + 1) c l m = (x + y + overN i c l m) / 2
  | 0, c, u :: l, v :: m, x, y, h1, h2 => by
    cases h1
    cases h2
    exact ⟨rfl, rfl⟩
  | i + 1, c, u :: l, v :: m, x, y, h1, h2 => by
    have ih := sum_step i ((u + v + c) / 2) l m x y h1 h2
    refine ⟨?_, ih.2⟩
    rw [sumN, List.take_succ_cons, ih.1]
    rfl
theorem flip_get {t : Nat} {m : List Nat} {i y : Nat} (h : m[i]? = some y) : (if t = 1 then m.map (fun x => 1 - x) else m)[i]? = some (if t = 1 then 1 - y else y) := by
  by_cases e : t = 1
  · rw [if_pos e, if_pos e, List.getElem?_map, h] <;> rfl
  · rw [if_neg e, if_neg e, h]
theorem flip_len {t : Nat} {m : List Nat} : (if t = 1 then m.map (fun x => 1 - x) else m).length = m.length := by
  by_cases e : t = 1
  · rw [if_pos e, List.length_map]
  · rw [if_neg e]
theorem vr_L_sum (vs H Q E) (h : sp_L_sum K vs H Q E) : rd_L_sum K { nx := fun _ H' => Q .non H', rt := Q } (start ["_law_one", "_law_other", "_law_turn", "_law_found", "_law_over", "_law_left", "_law_right_here", "_law_both"] vs) H := by
  obtain ⟨a, b, l, m, t, rfl, hl, hm, el, hz, ht, hb, q⟩ := h
  unfold rd_L_sum
  walk_at "zz"
  refine ⟨szl (by simp), fun p hp => ?_⟩
  walk_at "zz"
  generalize hm' : (if t = 1 then m.map (fun x => 1 - x) else m) = m' at q
  have lm : m'.length = l.length := by rw [← hm', flip_len, el]
  have ls : (sumN t l m').length = l.length := by rw [sum_len, lm, Nat.min_self]
  refine z_FZ (n := l.length) (by rw [ib_len, ib_len, el, Nat.min_self]) (ex_l (Ex.new hp) hl) (ex_l (Ex.new hp) hm)
    (fun i σ' H' => ∃ y5 y6 y7, σ' = [some (.ref a), some (.ref b), some (.int (t : Int)), some (.ref p), some (.int ((overN i t l m' : Nat) : Int)), y5, y6, y7] ∧ Ex H H' ∧ H' p = some (.lst (ib ((sumN t l m').take i)))) ?_ ?_ ?_ ?_
  · exact ⟨none, none, none, rfl, Ex.new hp, upd_same⟩
  · rintro i σ' H' hi ⟨y5, y6, y7, rfl, e, hl'⟩
    exact ⟨ex_l e hl, ex_l e hm⟩
  · rintro i x y T σ' H' H2 hi hx hy ⟨y5, y6, y7, rfl, e, hl'⟩ e2 hT rfl
    obtain ⟨u, hu, rfl⟩ := ib_get hx
    obtain ⟨v, hv, rfl⟩ := ib_get hy
    have hv2 : v < 2 := hb v (List.mem_of_getElem? hv)
    have hg := flip_get (t := t) hv
    rw [hm'] at hg
    obtain ⟨s1, s2⟩ := sum_step i t l m' u _ hu hg
    refine z_gtup2 (st_of upd_same) ?_
    walk_at "zz"
    have e5 : (upd H' T (HO.tup [V.int (u : Int), V.int (v : Int)])) p = some (.lst (ib ((sumN t l m').take i))) := e2 p _ hl'
    have fin : ∀ z : Int, z = ((u + (if t = 1 then 1 - v else v) + overN i t l m' : Nat) : Int) → ∀ y5' y6', ∃ y5 y6 y7, ([some (.ref a), some (.ref b), some (.int (t : Int)), some (.ref p), some (.int (z / 2)), y5', y6', some (.int z)] : L2.St) = [some (.ref a), some (.ref b), some (.int (t : Int)), some (.ref p), some (.int ((overN (i + 1) t l m' : Nat) : Int)), y5, y6, y7] ∧
        Ex H (upd (upd H' T (HO.tup [V.int (u : Int), V.int (v : Int)])) p (.lst (ib ((sumN t l m').take i) ++ [.int (z % 2)]))) ∧ (upd (upd H' T (HO.tup [V.int (u : Int), V.int (v : Int)])) p (.lst (ib ((sumN t l m').take i) ++ [.int (z % 2)]))) p = some (.lst (ib ((sumN t l m').take (i + 1)))) := fun z ez y5' y6' => by
      subst ez
      refine ⟨y5', y6', some (.int ((u + (if t = 1 then 1 - v else v) + overN i t l m' : Nat) : Int)), ?_, Ex.mut (e.trans e2) hp, ?_⟩
      · rw [s2] <;> rfl
      · rw [upd_same, s1, ib, ib, List.map_append] <;> rfl
    have ht1 : (V.int (t : Int) = V.int 1) ↔ t = 1 := ⟨fun h => by injection h with h; omega, fun h => by rw [h] <;> rfl⟩
    refine ite_b (fun h => ?_) (fun h => ?_)
    · have t1 : t = 1 := ht1.mp (of_decide_eq_true h)
      walk_at "zz"
      refine z_tyl (sq_of e5) ?_
      walk_at "zz"
      refine z_rapp e5 (by rw [ib_len, List.length_take]; exact szlt (by omega)) ?_
      walk_at "zz"
      exact fin _ (by rw [if_pos t1]; omega) _ _
    · have t1 : ¬ t = 1 := fun z => of_decide_eq_false h (ht1.mpr z)
      walk_at "zz"
      refine z_tyl (sq_of e5) ?_
      walk_at "zz"
      refine z_rapp e5 (by rw [ib_len, List.length_take]; exact szlt (by omega)) ?_
      walk_at "zz"
      exact fin _ (by rw [if_neg t1]; omega) _ _
  · rintro σ' H' ⟨y5, y6, y7, rfl, e, hl'⟩
    walk_at "zz"
    rw [← ls, List.take_length] at hl'
    exact q p H' hp e hl'
theorem fd_step : ∀ (i : Nat) (l m : List Nat) (x y : Nat), l[i]? = some x → m[i]? = some y → (∀ j, j < i → l[j]? = m[j]?) → fd (List.zip l m) = if x = y then fd (List.zip (l.drop (i + 1)) (m.drop (i + 1))) else if x < y then 1 else 0
  | 0, u :: l, v :: m, x, y, h1, h2, _ => by
    cases h1
    cases h2
    rfl
  | i + 1, u :: l, v :: m, x, y, h1, h2, hj => by
    have e0 : u = v := Option.some.inj (hj 0 (by omega))
    have ih := fd_step i l m x y h1 h2 fun j hji => hj (j + 1) (by omega)
    rw [List.zip_cons_cons, fd, if_pos e0, ih]
    rfl
theorem fd_same : ∀ (l m : List Nat), l.length = m.length → (∀ j, j < l.length → l[j]? = m[j]?) → fd (List.zip l m) = 0
  | [], _, _, _ => by simp [fd]
  | u :: l, [], h, _ => by simp at h
  | u :: l, v :: m, h, hj => by
    have e0 : u = v := Option.some.inj (hj 0 (by simp))
    rw [List.zip_cons_cons, fd, if_pos e0]
    exact fd_same l m (by simpa using h) fun j hji => hj (j + 1) (by simpa using hji)
theorem vr_L_less (vs H Q E) (h : sp_L_less K vs H Q E) : rd_L_less K { nx := fun _ H' => Q .non H', rt := Q } (start ["_law_one", "_law_other", "_law_left", "_law_right_here"] vs) H := by
  obtain ⟨a, b, l, m, rfl, hl, hm, el, q⟩ := h
  unfold rd_L_less
  walk_at "zz"
  refine ⟨a, _, rfl, hl, fun p hp => ?_⟩
  walk_at "zz"
  refine ⟨b, _, rfl, ex_l (Ex.new hp) hm, fun p2 hp2 => ?_⟩
  walk_at "zz"
  rw [ib_rev, ib_rev] at *
  generalize hA : l.reverse = A at *
  generalize hB : m.reverse = B at *
  have lA : A.length = B.length := by rw [← hA, ← hB, List.length_reverse, List.length_reverse, el]
  generalize hH0 : upd H p (HO.lst (ib A)) = H0 at *
  have e0 : Ex H H0 := by rw [← hH0]; exact Ex.new hp
  have f1 : (upd H0 p2 (HO.lst (ib B))) p = some (.lst (ib A)) := Ex.new hp2 p _ (by rw [← hH0]; exact upd_same)
  refine z_FZ (n := A.length) (by rw [ib_len, ib_len, lA, Nat.min_self]) (sq_of f1) (sq_of upd_same)
    (fun i σ' H' => ∃ y2 y3, σ' = [some (.ref a), some (.ref b), y2, y3] ∧ Ex (upd H0 p2 (HO.lst (ib B))) H' ∧ ∀ j, j < i → A[j]? = B[j]?) ?_ ?_ ?_ ?_
  · exact ⟨none, none, rfl, Ex.refl _, fun j h => absurd h (by omega)⟩
  · rintro i σ' H' hi ⟨y2, y3, rfl, e, hj⟩
    exact ⟨sq_of (e p _ f1), sq_of (e p2 _ upd_same)⟩
  · rintro i x y T σ' H' H2 hi hx hy ⟨y2, y3, rfl, e, hj⟩ e2 hT rfl
    obtain ⟨u, hu, rfl⟩ := ib_get hx
    obtain ⟨v, hv, rfl⟩ := ib_get hy
    refine z_gtup2 (st_of upd_same) ?_
    walk_at "zz"
    refine ite_b (fun h => ?_) (fun h => ?_)
    · have ne : u ≠ v := fun z => by
        subst z
        rw [decide_eq_true rfl] at h
        exact Bool.noConfusion h
      have st := fd_step i A B u v hu hv hj
      rw [if_neg ne] at st
      walk_at "zz"
      have ev : (if decide ((u : Int) < (v : Int)) = true then (1 : Int) else 0) = ((fd (List.zip A B) : Nat) : Int) := by
        rw [st]
        by_cases h3 : u < v
        · rw [if_pos h3, if_pos (decide_eq_true (by omega))] <;> rfl
        · rw [if_neg h3, if_neg (by rw [decide_eq_false (by omega)]; decide)] <;> rfl
      rw [ev]
      exact q.go (((e0.trans (Ex.new hp2)).trans e).trans e2)
    · have eq : u = v := by
        have h4 : (!decide (V.int (u : Int) = V.int (v : Int))) = false := h
        have h5 : decide (V.int (u : Int) = V.int (v : Int)) = true := by simpa using h4
        have h6 := of_decide_eq_true h5
        injection h6 with h7
        omega
      walk_at "zz"
      refine ⟨_, _, rfl, e.trans e2, fun j hji => ?_⟩
      by_cases z : j = i
      · rw [z, hu, hv, eq]
      · exact hj j (by omega)
  · rintro σ' H' ⟨y2, y3, rfl, e, hj⟩
    walk_at "zz"
    have := fd_same A B lA hj
    rw [this] at q
    exact q.go ((e0.trans (Ex.new hp2)).trans e)
theorem seven_cases {s : Str} (h : s ∈ seven) : s = "&" ∨ s = "|" ∨ s = "^" ∨ s = "+" ∨ s = "-" ∨ s = "==" ∨ s = "<" := by
  unfold seven at h
  simpa using h
theorem band_nat (x y : Nat) : Builtin.bitAnd (x : Int) (y : Int) = ((x &&& y : Nat) : Int) := rfl
theorem bor_nat (x y : Nat) : Builtin.bitOr (x : Int) (y : Int) = ((x ||| y : Nat) : Int) := bitOr_nn (Int.natCast_nonneg x) (Int.natCast_nonneg y)
theorem and_or (x y : Nat) : x + y = (x ||| y) + (x &&& y) := by
  induction x using Nat.strongRecOn generalizing y with
  | ind x ih =>
    by_cases h0 : x = 0
    · subst h0
      rw [Nat.zero_or, Nat.zero_and]
      omega
    · have i1 := ih (x / 2) (by omega) (y / 2)
      have a1 := and2 x y
      have a2 := or2 x y
      have d1 : (x &&& y) / 2 = x / 2 &&& y / 2 := Nat.and_div_two
      have d2 : (x ||| y) / 2 = x / 2 ||| y / 2 := Nat.or_div_two
      generalize x &&& y = A at *
      generalize x ||| y = B at *
      generalize x / 2 &&& y / 2 = A2 at *
      generalize x / 2 ||| y / 2 = B2 at *
      have hx := Nat.mod_two_eq_zero_or_one x
      have hy := Nat.mod_two_eq_zero_or_one y
      rcases hx with hx | hx <;> rcases hy with hy | hy <;> rw [hx, hy] at a1 a2 <;> simp at a1 a2 <;> omega
theorem xor_or (x y : Nat) : (x ^^^ y) + (x &&& y) = x ||| y := by
  induction x using Nat.strongRecOn generalizing y with
  | ind x ih =>
    by_cases h0 : x = 0
    · subst h0
      rw [Nat.zero_or, Nat.zero_and, Nat.zero_xor] <;> rfl
    · have i1 := ih (x / 2) (by omega) (y / 2)
      have a1 := and2 x y
      have a2 := or2 x y
      have a3 := xor2 x y
      have d1 : (x &&& y) / 2 = x / 2 &&& y / 2 := Nat.and_div_two
      have d2 : (x ||| y) / 2 = x / 2 ||| y / 2 := Nat.or_div_two
      have d3 : (x ^^^ y) / 2 = x / 2 ^^^ y / 2 := Nat.xor_div_two
      generalize x &&& y = A at *
      generalize x ||| y = B at *
      generalize x ^^^ y = C at *
      generalize x / 2 &&& y / 2 = A2 at *
      generalize x / 2 ||| y / 2 = B2 at *
      generalize x / 2 ^^^ y / 2 = C2 at *
      have hx := Nat.mod_two_eq_zero_or_one x
      have hy := Nat.mod_two_eq_zero_or_one y
      rcases hx with hx | hx <;> rcases hy with hy | hy <;> rw [hx, hy] at a1 a2 a3 <;> simp at a1 a2 a3 <;> omega
theorem bxor_nat (x y : Nat) : Builtin.bitXor (x : Int) (y : Int) = ((x ^^^ y : Nat) : Int) := by
  show Builtin.bitOr (x : Int) (y : Int) - Builtin.bitAnd (x : Int) (y : Int) = _
  rw [bor_nat, band_nat]
  have := xor_or x y
  omega
theorem band_mask (i : Int) (k : Nat) : Builtin.bitAnd i ((2 ^ k - 1 : Nat) : Int) = i % 2 ^ k := by
  have e : ((2 ^ k - 1 : Nat) : Int) = 2 ^ k - 1 := by
    rw [pow_cast]
    have := Nat.two_pow_pos k
    omega
  rw [e]
  exact PySem.W.kbt_mask i k
theorem two_low {s : Str} {n x y : Nat} (h : s ∈ seven) (hx : x < 2 ^ n) (hy : y < 2 ^ n) : (s = "&" → two s n x y = x &&& y) := fun e => by rw [e] <;> rfl
theorem vr_two_words (vs H Q E) (h : sp_two_words vs H Q E) : rd_two_words { nx := fun _ H' => Q .non H', rt := Q } (start ["sign", "one", "other", "width"] vs) H := by
  obtain ⟨s, n, x, y, rfl, hn, hx, hy, hs, q⟩ := h
  have p2 := Nat.two_pow_pos n
  unfold rd_two_words
  have top : ∀ (z : Int) (v : Nat), z % 2 ^ n = (v : Int) → v = two s n x y → ∀ w : Int, w = ((2 ^ n - 1 : Nat) : Int) → ∀ H', Ex H H' → Q (.int (Builtin.bitAnd z w)) H' := fun z v e1 e2 w e3 H' e => by
    rw [e3, band_mask, e1, e2]
    exact q.go e
  rcases seven_cases hs with rfl | rfl | rfl | rfl | rfl | rfl | rfl
  · walk_at "zz"
    refine ite_b (fun _ => ?_) (fun h => absurd h (by decide))
    walk_at "zz"
    rw [band_nat]
    exact q.go (Ex.refl H)
  · walk_at "zz"
    refine ite_b (fun h => absurd h (by decide)) (fun _ => ?_)
    walk_at "zz"
    refine ite_b (fun _ => ?_) (fun h => absurd h (by decide))
    walk_at "zz"
    rw [bor_nat]
    exact q.go (Ex.refl H)
  · walk_at "zz"
    refine ite_b (fun h => absurd h (by decide)) (fun _ => ?_)
    walk_at "zz"
    refine ite_b (fun h => absurd h (by decide)) (fun _ => ?_)
    walk_at "zz"
    refine ite_b (fun _ => ?_) (fun h => absurd h (by decide))
    walk_at "zz"
    rw [bxor_nat]
    exact q.go (Ex.refl H)
  · walk_at "zz"
    refine ite_b (fun h => absurd h (by decide)) (fun _ => ?_)
    walk_at "zz"
    refine ite_b (fun h => absurd h (by decide)) (fun _ => ?_)
    walk_at "zz"
    refine ite_b (fun h => absurd h (by decide)) (fun _ => ?_)
    walk_at "zz"
    refine ite_b (fun _ => ?_) (fun h => absurd h (by decide))
    walk_at "zz"
    refine ⟨n, rfl, hn, fun H' e => ?_⟩
    walk_at "zz"
    refine top _ ((x + y) % 2 ^ n) ?_ rfl _ rfl H' e
    rw [pow_cast, ← Int.natCast_add, ← Int.natCast_emod]
  · walk_at "zz"
    refine ite_b (fun h => absurd h (by decide)) (fun _ => ?_)
    walk_at "zz"
    refine ite_b (fun h => absurd h (by decide)) (fun _ => ?_)
    walk_at "zz"
    refine ite_b (fun h => absurd h (by decide)) (fun _ => ?_)
    walk_at "zz"
    refine ite_b (fun h => absurd h (by decide)) (fun _ => ?_)
    walk_at "zz"
    refine ite_b (fun _ => ?_) (fun h => absurd h (by decide))
    walk_at "zz"
    refine ⟨n, rfl, hn, fun H' e => ?_⟩
    walk_at "zz"
    refine top _ ((x + (2 ^ n - y)) % 2 ^ n) ?_ rfl _ rfl H' e
    rw [pow_cast]
    have e2 : (x : Int) - (y : Int) = ((x + (2 ^ n - y) : Nat) : Int) + ((2 ^ n : Nat) : Int) * (-1) := by omega
    rw [e2, Int.add_mul_emod_self_left] <;> rfl
  · walk_at "zz"
    refine ite_b (fun h => absurd h (by decide)) (fun _ => ?_)
    walk_at "zz"
    refine ite_b (fun h => absurd h (by decide)) (fun _ => ?_)
    walk_at "zz"
    refine ite_b (fun h => absurd h (by decide)) (fun _ => ?_)
    walk_at "zz"
    refine ite_b (fun h => absurd h (by decide)) (fun _ => ?_)
    walk_at "zz"
    refine ite_b (fun h => absurd h (by decide)) (fun _ => ?_)
    walk_at "zz"
    refine ite_b (fun _ => ?_) (fun h => absurd h (by decide))
    walk_at "zz"
    have q' : RetV (.int ((if x = y then 1 else 0 : Nat) : Int)) H Q := q
    refine ite_b (fun h => ?_) (fun h => ?_)
    · have e : x = y := by
        have h6 := of_decide_eq_true h
        injection h6 with h7
        omega
      walk_at "zz"
      rw [if_pos e] at q'
      exact q'.go (Ex.refl H)
    · have e : ¬ x = y := fun z => of_decide_eq_false h (by rw [z])
      walk_at "zz"
      rw [if_neg e] at q'
      exact q'.go (Ex.refl H)
  · walk_at "zz"
    refine ite_b (fun h => absurd h (by decide)) (fun _ => ?_)
    walk_at "zz"
    refine ite_b (fun h => absurd h (by decide)) (fun _ => ?_)
    walk_at "zz"
    refine ite_b (fun h => absurd h (by decide)) (fun _ => ?_)
    walk_at "zz"
    refine ite_b (fun h => absurd h (by decide)) (fun _ => ?_)
    walk_at "zz"
    refine ite_b (fun h => absurd h (by decide)) (fun _ => ?_)
    walk_at "zz"
    refine ite_b (fun h => absurd h (by decide)) (fun _ => ?_)
    walk_at "zz"
    have q' : RetV (.int ((if x < y then 1 else 0 : Nat) : Int)) H Q := q
    refine ite_b (fun h => ?_) (fun h => ?_)
    · have e : x < y := by
        have h6 := of_decide_eq_true h
        omega
      walk_at "zz"
      rw [if_pos e] at q'
      exact q'.go (Ex.refl H)
    · have e : ¬ x < y := fun z => of_decide_eq_false h (by omega)
      walk_at "zz"
      rw [if_neg e] at q'
      exact q'.go (Ex.refl H)
theorem vr_turned (vs H Q E) (h : sp_turned vs H Q E) : rd_turned { nx := fun _ H' => Q .non H', rt := Q } (start ["word", "width"] vs) H := by
  obtain ⟨n, x, rfl, hn, hx, q⟩ := h
  unfold rd_turned
  walk_at "zz"
  refine ⟨n, rfl, hn, fun H' e => ?_⟩
  walk_at "zz"
  have p2 := Nat.two_pow_pos n
  rw [bxor_nat]
  have a1 := xor_or x (2 ^ n - 1)
  have a2 := and_or x (2 ^ n - 1)
  have a3 : x &&& (2 ^ n - 1) = x := by rw [Nat.and_two_pow_sub_one_eq_mod, Nat.mod_eq_of_lt hx]
  have a4 : x ^^^ (2 ^ n - 1) = 2 ^ n - 1 - x := by omega
  rw [a4]
  exact q.go e
theorem vr_cut_word (vs H Q E) (h : sp_cut_word vs H Q E) : rd_cut_word { nx := fun _ H' => Q .non H', rt := Q } (start ["word", "low", "many"] vs) H := by
  obtain ⟨x, low, many, rfl, hl, hm, q⟩ := h
  unfold rd_cut_word
  walk_at "zz"
  refine z_i (show (0 : Int) ≤ (low : Int) by omega) ?_
  walk_at "zz"
  refine ⟨many, rfl, hm, fun H' e => ?_⟩
  walk_at "zz"
  rw [band_mask, Int.toNat_natCast, pow_cast, pow_cast, ← Int.natCast_ediv, ← Int.natCast_emod]
  exact q.go e
theorem vr_joined_words (vs H Q E) (h : sp_joined_words vs H Q E) : rd_joined_words { nx := fun _ H' => Q .non H', rt := Q } (start ["high", "low", "many"] vs) H := by
  obtain ⟨h, l, n, rfl, hn, hl, hh, q⟩ := h
  unfold rd_joined_words
  walk_at "zz"
  refine z_i (shl_ok (i := (h : Int)) (j := n) (n := 64) (by rw [Int.natAbs_natCast]; exact hh) (by omega)) ?_
  walk_at "zz"
  rw [Int.toNat_natCast, or_low (Int.natCast_nonneg h) (Int.natCast_nonneg l) (by rw [pow_cast]; omega), pow_cast, ← Int.natCast_mul, ← Int.natCast_add]
  rw [show h * 2 ^ n + l = l + 2 ^ n * h by rw [Nat.mul_comm, Nat.add_comm]]
  exact q.go (Ex.refl H)
theorem zip_get (f : Nat → Nat → Nat) {l m : List Nat} {i u v : Nat} (h1 : l[i]? = some u) (h2 : m[i]? = some v) : (List.zipWith f l m).take (i + 1) = (List.zipWith f l m).take i ++ [f u v] := by
  have e : (List.zipWith f l m)[i]? = some (f u v) := by rw [List.getElem?_zipWith, h1, h2]
  rw [List.take_add_one, e] <;> rfl
theorem vr_L_two (vs H Q E) (h : sp_L_two K vs H Q E) : rd_L_two K { nx := fun _ H' => Q .non H', rt := Q } (start ["_law_sign", "_law_one", "_law_other", "_law_found", "_law_left", "_law_right_here"] vs) H := by
  obtain ⟨s, a, b, n, x, y, rfl, hl, hm, hn, hx, hy, hs, q⟩ := h
  have lx : (bitsN n x).length = n := bits_len n x
  have ly : (bitsN n y).length = n := bits_len n y
  have nx : numN (bitsN n x) = x := by rw [num_bits, Nat.mod_eq_of_lt hx]
  unfold rd_L_two
  -- the three signs that are told bit by bit
  have bitwise : ∀ (s : Str) (k : Nat) (f : Nat → Nat → Nat), s = "&" ∧ k = 0 ∧ f = (fun i j => i * j) ∨ s = "|" ∧ k = 1 ∧ f = (fun i j => max i j) ∨ s = "^" ∧ k = 2 ∧ f = (fun i j => (i + j) % 2) → RetV (.int (two s n x y : Int)) H Q →
      (tSeq (tAsg (tLst tNil) (gName 3)) (tSeq (tFor (iZip K (tCons (tVar 1) (tCons (tVar 2) tNil))) (gTup K 2 (gCons (gName 4) (gCons (gName 5) gNil))) (tDrop (tBM K "list" rAppend (tVar 3) (tCons (tOp (rIxL K) (tLst (tCons (tOp rMulI (tVar 4) (tVar 5)) (tCons (tCB cMax2 (tCons (tVar 4) (tCons (tVar 5) tNil))) (tCons (tOp rModI (tOp rAddI (tVar 4) (tVar 5)) (tC (.int 2))) tNil)))) (tBM K "str" rIndexS (tC (.str "&|^")) (tCons (tVar 0) tNil))) tNil)))) (tRet (tCall (sp_L_number K) [] E0 (tCons (tVar 3) tNil)))))
        { nx := fun _ H' => Q .non H', rt := Q } [some (.str s), some (.ref a), some (.ref b), none, none, none] H := fun s k f hs q => by
    walk_at "zz"
    refine ⟨szl (by simp), fun p hp => ?_⟩
    walk_at "zz"
    refine z_FZ (n := n) (by rw [ib_len, ib_len, lx, ly, Nat.min_self]) (ex_l (Ex.new hp) hl) (ex_l (Ex.new hp) hm)
      (fun i σ' H' => ∃ y4 y5, σ' = [some (.str s), some (.ref a), some (.ref b), some (.ref p), y4, y5] ∧ Ex H H' ∧ H' p = some (.lst (ib ((List.zipWith f (bitsN n x) (bitsN n y)).take i)))) ?_ ?_ ?_ ?_
    · exact ⟨none, none, rfl, Ex.new hp, upd_same⟩
    · rintro i σ' H' hi ⟨y4, y5, rfl, e, hl'⟩
      exact ⟨ex_l e hl, ex_l e hm⟩
    · rintro i x1 y1 T σ' H' H2 hi hx1 hy1 ⟨y4, y5, rfl, e, hl'⟩ e2 hT rfl
      obtain ⟨u, hu, rfl⟩ := ib_get hx1
      obtain ⟨v, hv, rfl⟩ := ib_get hy1
      have bu : u < 2 := bits_lt n x u (List.mem_of_getElem? hu)
      have bv : v < 2 := bits_lt n y v (List.mem_of_getElem? hv)
      refine z_gtup2 (st_of upd_same) ?_
      walk_at "zz"
      generalize hU : upd H' T (HO.tup [V.int (u : Int), V.int (v : Int)]) = U at *
      have e5 : U p = some (.lst (ib ((List.zipWith f (bitsN n x) (bitsN n y)).take i))) := e2 p _ hl'
      refine z_tyl (sq_of e5) ?_
      walk_at "zz"
      refine ⟨szl (by simp), fun p3 hp3 => ?_⟩
      walk_at "zz"
      have n3 : p ≠ p3 := ne_of_none e5 hp3
      have fin : ∀ z : Int, z = ((f u v : Nat) : Int) → rAppend (.ref p) [.int z] (upd U p3 (.lst [.int ((u : Int) * v), .int (if (v : Int) > u then (v : Int) else u), .int (((u : Int) + v) % 2)])) (fun _ H1 => ∃ y4 y5, ([some (.str s), some (.ref a), some (.ref b), some (.ref p), some (.int (u : Int)), some (.int (v : Int))] : L2.St) = [some (.str s), some (.ref a), some (.ref b), some (.ref p), y4, y5] ∧ Ex H H1 ∧ H1 p = some (.lst (ib ((List.zipWith f (bitsN n x) (bitsN n y)).take (i + 1))))) := fun z ez => by
        subst ez
        refine z_rapp (by rw [upd_ne n3]; exact e5) (by rw [ib_len, List.length_take]; exact szlt (by omega)) ?_
        show ∃ y4 y5, _ ∧ Ex H _ ∧ _ = _
        refine ⟨_, _, rfl, Ex.mut ((e.trans e2).trans (Ex.new hp3)) hp, ?_⟩
        rw [upd_same, zip_get f hu hv, ib, ib, List.map_append] <;> rfl
      rcases hs with ⟨rfl, rfl, rfl⟩ | ⟨rfl, rfl, rfl⟩ | ⟨rfl, rfl, rfl⟩
      · refine ⟨_, _, 0, [], rfl, rfl, by decide +kernel, ?_⟩
        refine z_ixL (sq_of upd_same) rfl ?_
        walk_at "zz"
        exact fin _ (Int.natCast_mul _ _).symm
      · refine ⟨_, _, 1, [], rfl, rfl, by decide +kernel, ?_⟩
        refine z_ixL (sq_of upd_same) rfl ?_
        walk_at "zz"
        refine fin _ ?_
        show (if (v : Int) > u then (v : Int) else u) = ((max u v : Nat) : Int)
        by_cases h : v > u
        · rw [if_pos (by omega), Nat.max_eq_right (by omega)]
        · rw [if_neg (by omega), Nat.max_eq_left (by omega)]
      · refine ⟨_, _, 2, [], rfl, rfl, by decide +kernel, ?_⟩
        refine z_ixL (sq_of upd_same) rfl ?_
        walk_at "zz"
        exact fin _ (by rw [Int.natCast_emod, Int.natCast_add] <;> rfl)
    · rintro σ' H' ⟨y4, y5, rfl, e, hl'⟩
      walk_at "zz"
      have lz : (List.zipWith f (bitsN n x) (bitsN n y)).length = n := by rw [List.length_zipWith, lx, ly, Nat.min_self]
      rw [List.take_of_length_le (by omega)] at hl'
      refine ⟨p, _, rfl, sq_of hl', fun H2 e2 => ?_⟩
      have ev : numN (List.zipWith f (bitsN n x) (bitsN n y)) = two s n x y := by
        rcases hs with ⟨rfl, rfl, rfl⟩ | ⟨rfl, rfl, rfl⟩ | ⟨rfl, rfl, rfl⟩
        · rw [num_and, Nat.mod_eq_of_lt (Nat.lt_of_le_of_lt Nat.and_le_left hx)] <;> rfl
        · rw [num_or, Nat.mod_eq_of_lt (Nat.or_lt_two_pow hx hy)] <;> rfl
        · rw [num_xor, Nat.mod_eq_of_lt (Nat.xor_lt_two_pow hx hy)] <;> rfl
      rw [ev]
      exact q.go (e.trans e2)
  rcases seven_cases hs with rfl | rfl | rfl | rfl | rfl | rfl | rfl
  · walk_at "zz"
    refine ite_b (fun h => absurd h (by decide)) (fun _ => ?_)
    walk_at "zz"
    refine ite_b (fun h => absurd h (by decide)) (fun _ => ?_)
    walk_at "zz"
    refine ite_b (fun h => absurd h (by decide)) (fun _ => ?_)
    walk_at "zz"
    refine ite_b (fun h => absurd h (by decide)) (fun _ => ?_)
    exact bitwise _ 0 _ (.inl ⟨rfl, rfl, rfl⟩) q
  · walk_at "zz"
    refine ite_b (fun h => absurd h (by decide)) (fun _ => ?_)
    walk_at "zz"
    refine ite_b (fun h => absurd h (by decide)) (fun _ => ?_)
    walk_at "zz"
    refine ite_b (fun h => absurd h (by decide)) (fun _ => ?_)
    walk_at "zz"
    refine ite_b (fun h => absurd h (by decide)) (fun _ => ?_)
    exact bitwise _ 1 _ (.inr (.inl ⟨rfl, rfl, rfl⟩)) q
  · walk_at "zz"
    refine ite_b (fun h => absurd h (by decide)) (fun _ => ?_)
    walk_at "zz"
    refine ite_b (fun h => absurd h (by decide)) (fun _ => ?_)
    walk_at "zz"
    refine ite_b (fun h => absurd h (by decide)) (fun _ => ?_)
    walk_at "zz"
    refine ite_b (fun h => absurd h (by decide)) (fun _ => ?_)
    exact bitwise _ 2 _ (.inr (.inr ⟨rfl, rfl, rfl⟩)) q
  · walk_at "zz"
    refine ite_b (fun _ => ?_) (fun h => absurd h (by decide))
    walk_at "zz"
    refine ⟨a, b, bitsN n x, bitsN n y, 0, rfl, hl, hm, by rw [lx, ly], by omega, by decide, bits_lt n y, fun p H2 hp e h2 => ?_⟩
    walk_at "zz"
    refine ⟨p, _, rfl, sq_of h2, fun H3 e3 => ?_⟩
    rw [if_neg (by decide), num_sum, Nat.add_zero]
    exact q.go (e.trans e3)
  · walk_at "zz"
    refine ite_b (fun h => absurd h (by decide)) (fun _ => ?_)
    walk_at "zz"
    refine ite_b (fun _ => ?_) (fun h => absurd h (by decide))
    walk_at "zz"
    refine ⟨a, b, bitsN n x, bitsN n y, 1, rfl, hl, hm, by rw [lx, ly], by omega, by decide, bits_lt n y, fun p H2 hp e h2 => ?_⟩
    walk_at "zz"
    refine ⟨p, _, rfl, sq_of h2, fun H3 e3 => ?_⟩
    rw [if_pos rfl, num_sub n x y hy]
    exact q.go (e.trans e3)
  · walk_at "zz"
    refine ite_b (fun h => absurd h (by decide)) (fun _ => ?_)
    walk_at "zz"
    refine ite_b (fun h => absurd h (by decide)) (fun _ => ?_)
    walk_at "zz"
    refine ite_b (fun _ => ?_) (fun h => absurd h (by decide))
    walk_at "zz"
    have ii : ∀ l : List Nat, ib l = (l.map fun (b : Nat) => (b : Int)).map V.int := fun l => by rw [ib, List.map_map] <;> rfl
    rw [ii] at hl hm
    refine z_eqL (b := decide (x = y)) hl hm ⟨fun h => by rw [of_decide_eq_true h], fun h => decide_eq_true ?_⟩ ?_
    · refine bits_inj hx hy ?_
      have e := congrArg (List.map Int.toNat) h
      rw [List.map_map, List.map_map] at e
      have f : ∀ l : List Nat, List.map (Int.toNat ∘ fun (b : Nat) => (b : Int)) l = l := fun l => by
        induction l with
        | nil => rfl
        | cons a l ih => rw [List.map_cons, ih] <;> rfl
      rw [f, f] at e
      exact e
    walk_at "zz"
    have e : (if decide (x = y) = true then (1 : Int) else 0) = ((two "==" n x y : Nat) : Int) := by
      show _ = (((if x = y then 1 else 0 : Nat)) : Int)
      by_cases h : x = y
      · rw [if_pos (decide_eq_true h), if_pos h] <;> rfl
      · rw [if_neg (by rw [decide_eq_false h]; decide), if_neg h] <;> rfl
    rw [e]
    exact q.go (Ex.refl H)
  · walk_at "zz"
    refine ite_b (fun h => absurd h (by decide)) (fun _ => ?_)
    walk_at "zz"
    refine ite_b (fun h => absurd h (by decide)) (fun _ => ?_)
    walk_at "zz"
    refine ite_b (fun h => absurd h (by decide)) (fun _ => ?_)
    walk_at "zz"
    refine ite_b (fun _ => ?_) (fun h => absurd h (by decide))
    walk_at "zz"
    refine ⟨a, b, bitsN n x, bitsN n y, rfl, hl, hm, by rw [lx, ly], fun H2 e2 => ?_⟩
    rw [fd_bits, Nat.mod_eq_of_lt hx, Nat.mod_eq_of_lt hy]
    exact q.go e2
theorem rep_ib (n : Nat) : (List.replicate n [V.int 1]).flatten = ib (List.replicate n 1) := by
  induction n with
  | zero => rfl
  | succ n ih => rw [List.replicate_succ, List.flatten_cons, ih, List.replicate_succ] <;> rfl
theorem sign_at {m : Int} (h0 : 0 ≤ m) (h : m < 7) : ∃ s, s ∈ seven ∧ atI [V.str "&", V.str "|", V.str "^", V.str "+", V.str "-", V.str "==", V.str "<"] m = some (.str s) := by
  have c : m = 0 ∨ m = 1 ∨ m = 2 ∨ m = 3 ∨ m = 4 ∨ m = 5 ∨ m = 6 := by omega
  rcases c with rfl | rfl | rfl | rfl | rfl | rfl | rfl
  · exact ⟨"&", by decide, rfl⟩
  · exact ⟨"|", by decide, rfl⟩
  · exact ⟨"^", by decide, rfl⟩
  · exact ⟨"+", by decide, rfl⟩
  · exact ⟨"-", by decide, rfl⟩
  · exact ⟨"==", by decide, rfl⟩
  · exact ⟨"<", by decide, rfl⟩
theorem q_same {Q : VK} {H H' : Hp} {v w : V} (q : RetV (.bl true) H Q) (e : Ex H H') (h : v = w) : Q (.bl (decide (v = w))) H' := by
  rw [decide_eq_true h]
  exact q.go e
theorem given_all (xs : List V) (f : V → V) : Evl.given xs.length (fun _ => true) (fun i => f (xs.getD i .non)) = xs.map f := by
  unfold Evl.given
  rw [List.filter_eq_self.mpr (fun _ _ => rfl)]
  refine List.ext_getElem (by simp) fun i h1 h2 => ?_
  simp at h1
  simp [h1]
def flipV : V → V
  | .int i => .int (1 - i)
  | v => v
theorem flip_ib (n x : Nat) : (ib (bitsN n x)).map flipV = ib ((bitsN n x).map fun b => 1 - b) := by
  unfold ib
  rw [List.map_map, List.map_map]
  refine List.map_congr_left fun b hb => ?_
  have := bits_lt n x b hb
  show V.int (1 - (b : Int)) = V.int ((1 - b : Nat) : Int)
  congr 1
  omega
theorem cut_ib (l : List Nat) (low many : Nat) : cutV (ib l) (some (low : Int)) (some ((low : Int) + (1 + (many : Int)))) = ib ((l.drop low).take (many + 1)) := by
  have e : (low : Int) + (1 + (many : Int)) = ((low + (many + 1) : Nat) : Int) := by omega
  rw [e]
  unfold cutV
  rw [HT.sIx_nat, HT.sIx_nat]
  unfold ib
  rw [List.length_map, ← List.map_drop, ← List.map_take]
  congr 1
  by_cases h : low ≤ l.length
  · rw [Nat.min_eq_left h]
    by_cases h2 : low + (many + 1) ≤ l.length
    · rw [Nat.min_eq_left h2, Nat.add_sub_cancel_left]
    · rw [Nat.min_eq_right (by omega), List.take_of_length_le (by rw [List.length_drop]; omega), List.take_of_length_le (by rw [List.length_drop]; omega)]
  · rw [List.drop_eq_nil_of_le (by omega), List.drop_eq_nil_of_le (by omega), List.take_nil, List.take_nil]
theorem vr_L_right (vs H Q E) (h : sp_L_right vs H Q E) : rd_L_right K { nx := fun _ H' => Q .non H', rt := Q } (start ["_law_cell", "_law_width_here", "_law_more", "_law_one", "_law_other", "_law_bits_here", "_law_top", "_law_way", "_law_sign", "_law_found", "_law_low", "_law_many", "_law_bit"] vs) H := by
  obtain ⟨c, rfl, hc, q⟩ := h
  unfold rd_L_right
  walk_at "zz"
  refine ⟨c, rfl, hc.1, fun n n1 n2 H1 e1 => ?_⟩
  have p2 := Nat.two_pow_pos n
  walk_at "zz"
  refine ⟨c, 1, rfl, by decide, fun m1 a1 b1 H2 e2 => ?_⟩
  walk_at "zz"
  refine ⟨m1, n, rfl, ⟨a1, b1, n1, n2⟩, fun x hx H3 e3 => ?_⟩
  walk_at "zz"
  refine ⟨c, 2, rfl, by decide, fun m2 a2 b2 H4 e4 => ?_⟩
  walk_at "zz"
  refine ⟨m2, n, rfl, ⟨a2, b2, n1, n2⟩, fun y0 hy0 H5 e5 => ?_⟩
  walk_at "zz"
  refine z_cut (fun σ' H' => ∃ y : Nat, y < 2 ^ n ∧ Ex H5 H' ∧ σ' = [some (.int c), some (.int (n : Int)), some (.int m1), some (.int (x : Int)), some (.int (y : Int)), none, none, none, none, none, none, none, none]) ?_ ?_
  · walk_at "zz"
    refine ite_b (fun _ => ?_) (fun _ => ?_)
    · walk_at "zz"
      exact ⟨x, hx, Ex.refl _, rfl⟩
    · walk_at "zz"
      exact ⟨y0, hy0, Ex.refl _, rfl⟩
  rintro σ' H5' ⟨y, hy, e5', rfl⟩
  walk_at "zz"
  refine ⟨x, n, rfl, n2, fun p H6 hp e6 h6 => ?_⟩
  walk_at "zz"
  refine ⟨szl (by simp), fun p7 hp7 => ?_⟩
  walk_at "zz"
  refine z_rep upd_same (by omega) (by omega) (by simp; exact szl (by omega)) fun p8 hp8 => ?_
  walk_at "zz"
  refine ⟨p8, List.replicate n 1, rfl, sq_of ?_, fun H9 e9 => ?_⟩
  · rw [upd_same, Int.toNat_natCast, rep_ib]
  walk_at "zz"
  refine ⟨n, rfl, n2, fun H10 e10 => ?_⟩
  walk_at "zz"
  refine ⟨_, rfl, fun H11 e11 => ?_⟩
  walk_at "zz"
  refine ite_b (fun h => absurd h (by decide)) (fun _ => ?_)
  walk_at "zz"
  refine ⟨n, rfl, n2, fun H12 e12 => ?_⟩
  walk_at "zz"
  refine ite_b (fun h => ?_) (fun _ => ?_)
  · rw [num_ones, decide_eq_true rfl] at h
    exact absurd h (by decide)
  walk_at "zz"
  refine ⟨c, 3, rfl, by decide, fun m3 a3 b3 H13 e13 => ?_⟩
  walk_at "zz"
  have w0 : 0 ≤ m3 % 10 := Int.emod_nonneg _ (by decide)
  refine ite_b (fun hw => ?_) (fun hw => ?_)
  · have hw7 : m3 % 10 < 7 := of_decide_eq_true hw
    walk_at "zz"
    refine ⟨szl (by simp), fun p14 hp14 => ?_⟩
    walk_at "zz"
    obtain ⟨s, hs, hat⟩ := sign_at w0 hw7
    refine z_ixL (sq_of upd_same) hat ?_
    walk_at "zz"
    refine ⟨s, n, x, y, rfl, n2, hx, hy, hs, fun H15 e15 => ?_⟩
    walk_at "zz"
    refine ⟨_, rfl, fun H16 e16 => ?_⟩
    walk_at "zz"
    refine ⟨y, n, rfl, n2, fun p17 H17 hp17 e17 h17 => ?_⟩
    walk_at "zz"
    refine ⟨s, _, _, n, x, y, rfl, ?_, sq_of h17, n2, hx, hy, hs, fun H18 e18 => ?_⟩
    · have := sq_of (K := K) h6
      walk_at "sq"
    walk_at "zz"
    exact q_same q (by walk_at "ex") rfl
  walk_at "zz"
  refine ite_b (fun hw2 => ?_) (fun hw2 => ?_)
  · walk_at "zz"
    refine ⟨n, x, rfl, n2, hx, fun H15 e15 => ?_⟩
    walk_at "zz"
    refine ⟨_, rfl, fun H16 e16 => ?_⟩
    walk_at "zz"
    have hb6 : SqL K H16 p (ib (bitsN n x)) := by
      have := sq_of (K := K) h6
      walk_at "sq"
    refine z_CL (f := fun _ => true) (v := fun i => flipV ((ib (bitsN n x)).getD i .non)) hb6 (by rw [ib_len, bits_len]; omega) (fun _ => rfl) (fun i z H' hi hz e => fun H2 e2 Q' q' => q' _ (Ex.refl _)) (fun i z H' hi hz e _ => fun H2 e2 Q' q' => ?_) (fun p17 H17 hp17 e17 h17 => ?_)
    · obtain ⟨v, hv, rfl⟩ := ib_get hz
      have e8 : (ib (bitsN n x)).getD i .non = V.int (v : Int) := by rw [List.getD_eq_getElem?_getD, hz] <;> rfl
      have bv : v < 2 := bits_lt n x v (List.mem_of_getElem? hv)
      rw [e8] at q'
      walk_at "zz"
      exact q' _ (Ex.refl _)
    walk_at "zz"
    refine ⟨p17, (bitsN n x).map (fun b => 1 - b), rfl, sq_of ?_, fun H18 e18 => ?_⟩
    · rw [h17, given_all, flip_ib n x]
    walk_at "zz"
    exact q_same q (by walk_at "ex") (by rw [num_flip n x hx])
  walk_at "zz"
  refine ⟨c, 4, rfl, by decide, fun m4 a4 b4 H15 e15 => ?_⟩
  walk_at "zz"
  refine ⟨c, 5, rfl, by decide, fun m5 a5 b5 H16 e16 => ?_⟩
  walk_at "zz"
  refine ite_b (fun hw3 => ?_) (fun hw3 => ?_)
  · walk_at "zz"
    have l0 : 0 ≤ m4 % 64 ∧ m4 % 64 < 64 := ⟨Int.emod_nonneg _ (by decide), Int.emod_lt_of_pos _ (by decide)⟩
    have k0 : 0 ≤ m5 % 64 ∧ m5 % 64 < 64 := ⟨Int.emod_nonneg _ (by decide), Int.emod_lt_of_pos _ (by decide)⟩
    generalize m4 % 64 = low at l0
    generalize m5 % 64 = many at k0
    obtain ⟨low, rfl⟩ := Int.eq_ofNat_of_zero_le l0.1
    obtain ⟨many, rfl⟩ := Int.eq_ofNat_of_zero_le k0.1
    refine ⟨x, low, many + 1, (show _ = [V.int (x : Int), V.int (low : Int), V.int ((many + 1 : Nat) : Int)] by rw [Int.natCast_add, Int.add_comm] <;> rfl), by omega, by omega, fun H17 e17 => ?_⟩
    walk_at "zz"
    refine ⟨_, rfl, fun H18 e18 => ?_⟩
    walk_at "zz"
    have hb6 : SqL K H18 p (ib (bitsN n x)) := by
      have := sq_of (K := K) h6
      walk_at "sq"
    refine z_slL hb6 fun p19 hp19 => ?_
    walk_at "zz"
    refine ⟨p19, ((bitsN n x).drop low).take (many + 1), rfl, sq_of ?_, fun H20 e20 => ?_⟩
    · rw [upd_same, cut_ib] <;> rfl
    walk_at "zz"
    exact q_same q (by walk_at "ex") (by rw [num_cut n x low (many + 1) hx])
  walk_at "zz"
  refine ⟨y, x, n, rfl, n2, hx, Nat.lt_of_lt_of_le (hy) (Nat.pow_le_pow_right (by decide) n2), fun H17 e17 => ?_⟩
  walk_at "zz"
  refine ⟨_, rfl, fun H18 e18 => ?_⟩
  walk_at "zz"
  refine ⟨y, n, rfl, n2, fun p19 H19 hp19 e19 h19 => ?_⟩
  walk_at "zz"
  have hb6 : H19 p = some (.lst (ib (bitsN n x))) := by
    have ee : Ex H6 H19 := by walk_at "ex"
    exact ee p _ h6
  refine z_cat hb6 h19 (by rw [ib_len, ib_len, bits_len, bits_len]; exact szl (by omega)) fun p20 hp20 => ?_
  walk_at "zz"
  refine ⟨p20, bitsN n x ++ bitsN n y, rfl, sq_of (by rw [upd_same, ib, ib, ib, List.map_append] <;> rfl), fun H21 e21 => ?_⟩
  walk_at "zz"
  refine q_same q (by walk_at "ex") ?_
  rw [num_app, bits_len, num_bits, num_bits, Nat.mod_eq_of_lt hx, Nat.mod_eq_of_lt (hy)]
theorem vr_law (vs H Q E) (h : sp_law K vs H Q E) : rd_law K { nx := fun _ H' => Q .non H', rt := Q } (start ["_law_script", "_law_cell"] vs) H := by
  obtain ⟨a, ns, rfl, hS, hl, q⟩ := h
  unfold rd_law
  walk_at "zz"
  refine ite_b (fun h => absurd h (by decide)) (fun _ => ?_)
  walk_at "zz"
  refine z_slL hS fun p hp => ?_
  walk_at "zz"
  refine ⟨szl (by simp), fun p2 hp2 => ?_⟩
  walk_at "zz"
  have e63 : cutV (ns.map V.int) none (some 63) = ns.map V.int := by
    unfold cutV
    rw [HT.sIx_none, show (63 : Int) = ((63 : Nat) : Int) from rfl, HT.sIx_nat, List.length_map, Nat.min_eq_right hl, Nat.sub_zero, List.drop_zero]
    exact List.take_of_length_le (by rw [List.length_map]; omega)
  have n2 : p ≠ p2 := ne_of_none upd_same hp2
  refine z_cat (by rw [upd_ne n2]; exact upd_same) upd_same (by rw [e63, List.length_map]; exact szl (by simp; omega)) fun p3 hp3 => ?_
  rw [e63]
  have hx : ns.map V.int ++ [V.int 3] = (ns ++ [3]).map V.int := by rw [List.map_append] <;> rfl
  rw [hx]
  refine z_FL (xs := (ns ++ [3]).map V.int) (sq_of upd_same) (fun i σ' H' => ∃ y, σ' = [some (.ref a), y] ∧ Ex (upd (upd (upd H p (HO.lst (ns.map V.int))) p2 (HO.lst [V.int 3])) p3 (HO.lst ((ns ++ [3]).map V.int))) H') ?_ ?_ ?_ ?_
  · exact ⟨none, rfl, Ex.refl _⟩
  · rintro i σ' H' hi ⟨y, rfl, e⟩
    exact sq_of (e p3 _ upd_same)
  · rintro i x σ' H' hi hx ⟨y, rfl, e⟩
    obtain ⟨c, hc, rfl⟩ : ∃ c : Int, (ns ++ [3])[i]? = some c ∧ x = .int c := by
      rw [List.getElem?_map] at hx
      cases e2 : (ns ++ [3])[i]? with
      | none =>
        rw [e2] at hx
        cases hx
      | some c =>
        rw [e2] at hx
        exact ⟨c, rfl, (Option.some.inj hx).symm⟩
    walk_at "zz"
    refine ⟨_, rfl, ⟨Int.emod_nonneg _ (by decide), Int.emod_lt_of_pos _ (by decide)⟩, fun H2 e2 => ?_⟩
    walk_at "zz"
    refine ite_b (fun h => absurd h (by decide)) (fun _ => ?_)
    walk_at "zz"
    exact ⟨_, rfl, e.trans e2⟩
  · rintro σ' H' ⟨y, rfl, e⟩
    walk_at "zz"
    have n1 : Ex H (upd H p (HO.lst (ns.map V.int))) := Ex.new hp
    rw [e63] at hp2 hp3
    exact q.go (((n1.trans (Ex.new hp2)).trans (Ex.new hp3)).trans e)
end

end K01
namespace K01
open PySem PySem.Spec PyProof.Rows L2 Z
open Evl (Ex ex_l ex_t sq_of st_of fresh_back RetL RetV)

def topS (i : Nat) : Stmt := PySem.Challenge.pw_wireyard_k01_words_of_bits.main.body.getD i (.Pass ⟨0, 0, 0, 0⟩)
abbrev s_L_width : Stmt := topS 10
theorem sc_L_width : FnScope ["_law_cell"] ["_law_cell"] (defScope s_L_width) := ⟨rfl, rfl, rfl, by decide +kernel, rfl, by decide +kernel, by decide +kernel⟩
abbrev s_L_mixed : Stmt := topS 8
theorem sc_L_mixed : FnScope ["_law_cell", "_law_k", "_law_number_here"] ["_law_cell", "_law_k"] (defScope s_L_mixed) := ⟨rfl, rfl, rfl, by decide +kernel, rfl, by decide +kernel, by decide +kernel⟩
abbrev s_L_word : Stmt := topS 11
theorem sc_L_word : FnScope ["_law_cell", "_law_width_here", "_law_top", "_law_many", "_law_bit"] ["_law_cell", "_law_width_here"] (defScope s_L_word) := ⟨rfl, rfl, rfl, by decide +kernel, rfl, by decide +kernel, by decide +kernel⟩
abbrev s_L_bits : Stmt := topS 12
theorem sc_L_bits : FnScope ["_law_word_here", "_law_many", "_law_found", "_law_k"] ["_law_word_here", "_law_many"] (defScope s_L_bits) := ⟨rfl, rfl, rfl, by decide +kernel, rfl, by decide +kernel, by decide +kernel⟩
abbrev s_L_number : Stmt := topS 13
theorem sc_L_number : FnScope ["_law_bits_here", "_law_found", "_law_bit"] ["_law_bits_here"] (defScope s_L_number) := ⟨rfl, rfl, rfl, by decide +kernel, rfl, by decide +kernel, by decide +kernel⟩
abbrev s_L_whole : Stmt := topS 9
theorem sc_L_whole : FnScope ["_law_found"] ["_law_found"] (defScope s_L_whole) := ⟨rfl, rfl, rfl, by decide +kernel, rfl, by decide +kernel, by decide +kernel⟩
abbrev s_top_of : Stmt := topS 2
theorem sc_top_of : FnScope ["width"] ["width"] (defScope s_top_of) := ⟨rfl, rfl, rfl, by decide +kernel, rfl, by decide +kernel, by decide +kernel⟩
abbrev s_two_words : Stmt := topS 4
theorem sc_two_words : FnScope ["sign", "one", "other", "width"] ["sign", "one", "other", "width"] (defScope s_two_words) := ⟨rfl, rfl, rfl, by decide +kernel, rfl, by decide +kernel, by decide +kernel⟩
abbrev s_L_sum : Stmt := topS 14
theorem sc_L_sum : FnScope ["_law_one", "_law_other", "_law_turn", "_law_found", "_law_over", "_law_left", "_law_right_here", "_law_both"] ["_law_one", "_law_other", "_law_turn"] (defScope s_L_sum) := ⟨rfl, rfl, rfl, by decide +kernel, rfl, by decide +kernel, by decide +kernel⟩
abbrev s_L_less : Stmt := topS 15
theorem sc_L_less : FnScope ["_law_one", "_law_other", "_law_left", "_law_right_here"] ["_law_one", "_law_other"] (defScope s_L_less) := ⟨rfl, rfl, rfl, by decide +kernel, rfl, by decide +kernel, by decide +kernel⟩
abbrev s_L_two : Stmt := topS 16
theorem sc_L_two : FnScope ["_law_sign", "_law_one", "_law_other", "_law_found", "_law_left", "_law_right_here"] ["_law_sign", "_law_one", "_law_other"] (defScope s_L_two) := ⟨rfl, rfl, rfl, by decide +kernel, rfl, by decide +kernel, by decide +kernel⟩
abbrev s_turned : Stmt := topS 3
theorem sc_turned : FnScope ["word", "width"] ["word", "width"] (defScope s_turned) := ⟨rfl, rfl, rfl, by decide +kernel, rfl, by decide +kernel, by decide +kernel⟩
abbrev s_cut_word : Stmt := topS 5
theorem sc_cut_word : FnScope ["word", "low", "many"] ["word", "low", "many"] (defScope s_cut_word) := ⟨rfl, rfl, rfl, by decide +kernel, rfl, by decide +kernel, by decide +kernel⟩
abbrev s_joined_words : Stmt := topS 6
theorem sc_joined_words : FnScope ["high", "low", "many"] ["high", "low", "many"] (defScope s_joined_words) := ⟨rfl, rfl, rfl, by decide +kernel, rfl, by decide +kernel, by decide +kernel⟩
abbrev s_L_right : Stmt := topS 17
theorem sc_L_right : FnScope ["_law_cell", "_law_width_here", "_law_more", "_law_one", "_law_other", "_law_bits_here", "_law_top", "_law_way", "_law_sign", "_law_found", "_law_low", "_law_many", "_law_bit"] ["_law_cell"] (defScope s_L_right) := ⟨rfl, rfl, rfl, by decide +kernel, rfl, by decide +kernel, by decide +kernel⟩
abbrev s_law : Stmt := topS 18
theorem sc_law : FnScope ["_law_script", "_law_cell"] ["_law_script"] (defScope s_law) := ⟨rfl, rfl, rfl, by decide +kernel, rfl, by decide +kernel, by decide +kernel⟩
structure Tx (K : PySem.W.Frag) (mg : Str → Option Value) : Prop where
  d_L_width : DX K mg "_law_width" s_L_width
  d_L_mixed : DX K mg "_law_mixed" s_L_mixed
  d_L_word : DX K mg "_law_word" s_L_word
  d_L_bits : DX K mg "_law_bits" s_L_bits
  d_L_number : DX K mg "_law_number" s_L_number
  d_L_whole : DX K mg "_law_whole" s_L_whole
  d_top_of : DX K mg "top_of" s_top_of
  d_two_words : DX K mg "two_words" s_two_words
  d_L_sum : DX K mg "_law_sum" s_L_sum
  d_L_less : DX K mg "_law_less" s_L_less
  d_L_two : DX K mg "_law_two" s_L_two
  d_turned : DX K mg "turned" s_turned
  d_cut_word : DX K mg "cut_word" s_cut_word
  d_joined_words : DX K mg "joined_words" s_joined_words
  d_L_right : DX K mg "_law_right" s_L_right
  d_law : DX K mg "law" s_law
  n_bool : mg "bool" = none
  n_int : mg "int" = none
  n_isinstance : mg "isinstance" = none
  n_max : mg "max" = none
  n_range : mg "range" = none
  n_zip : mg "zip" = none
  c_MOST_WIDTH : ∃ u, mg "MOST_WIDTH" = some u ∧ RelV (.int 64) u
section
variable {P : Program} {w : World} {K : PySem.W.Frag} {mg : Str → Option Value} {base : Heap}
theorem ok_L_width (T : Tx K mg) : Cal P w K mg base 1 "_law_width" sp_L_width :=
  cal_mk (t := (rd_L_width K)) T.d_L_width sc_L_width (fun _ _ _ _ _ _ us hl => match us, hl with | [_], _ => rfl) len_L_width
    (fun f cdv A outer s H E hr => (pss_one (ps_ret (pe_ix ix_list (pe_lst (pa_cons pe_int (pa_cons pe_int (pa_cons pe_int (pa_cons pe_int (pa_cons (pe_op op_add pe_int (pe_op op_mod (pe_op op_fdiv (pv 0) pe_int) pe_int)) (pa_cons (pe_op op_add pe_int (pe_op op_mod (pe_op op_fdiv (pv 0) pe_int) pe_int)) (pa_cons (pe_op op_add pe_int (pe_op op_mod (pe_op op_fdiv (pv 0) pe_int) pe_int)) pa_nil)))))))) (pe_op op_mod (pv 0) pe_int) (fun _ _ => rfl)))))
    (fun vs H Q E h => vr_L_width vs H Q E h)
theorem ok_L_mixed (T : Tx K mg) : Cal P w K mg base 1 "_law_mixed" sp_L_mixed :=
  cal_mk (t := rd_L_mixed) T.d_L_mixed sc_L_mixed (fun _ _ _ _ _ _ us hl => match us, hl with | [_, _], _ => rfl) len_L_mixed
    (fun f cdv A outer s H E hr => (pss_cons (ps_set (i := 2) sc_L_mixed.nd rfl (.inl rfl) (pe_op op_mod (pe_op op_mul (pe_op op_add (pe_op op_add (pe_op op_mod (pv 0) pe_int) (pe_op op_mul (pe_op op_mul pe_int (pv 1)) (pv 1))) pe_int) pe_int) pe_int))
    (pss_one (ps_ret (pe_op op_mod (pe_op op_mul (pv 2) (pe_op op_add pe_int (pe_op op_mul pe_int (pv 1)))) pe_int)))))
    (fun vs H Q E h => vr_L_mixed vs H Q E h)
theorem ok_L_word (T : Tx K mg) : Cal P w K mg base 1 "_law_word" sp_L_word :=
  cal_mk (t := (rd_L_word K)) T.d_L_word sc_L_word (fun _ _ _ _ _ _ us hl => match us, hl with | [_, _], _ => rfl) len_L_word
    (fun f cdv A outer s H E hr => (pss_cons (ps_set (i := 2) sc_L_word.nd rfl (.inl rfl) (pe_op op_sub (pe_op op_shlW pe_int (pv 1)) pe_int))
    (pss_cons (ps_set (i := 3) sc_L_word.nd rfl (.inl rfl) (pe_op op_mul (pe_op op_fdiv (pv 0) pe_int) (pe_op op_pow pe_int pe_int)))
    (pss_cons (ps_set (i := 4) sc_L_word.nd rfl (.inl rfl) (pe_op op_shlW pe_int (pe_op op_mod (pe_op op_fdiv (pv 0) pe_int) (pv 1))))
    (pss_one (ps_ret (pe_ix ix_list (pe_lst (pa_cons pe_int (pa_cons pe_int (pa_cons (pv 2) (pa_cons (pv 4) (pa_cons (pe_op op_sub (pv 4) pe_int) (pa_cons (pe_op op_mod (pv 3) (pe_op op_add (pv 2) pe_int)) pa_nil))))))) (pe_op op_mod (pv 0) pe_int) (fun _ _ => rfl))))))))
    (fun vs H Q E h => vr_L_word vs H Q E h)
theorem ok_L_bits (T : Tx K mg) : Cal P w K mg base 1 "_law_bits" sp_L_bits :=
  cal_mk (t := (rd_L_bits K)) T.d_L_bits sc_L_bits (fun _ _ _ _ _ _ us hl => match us, hl with | [_, _], _ => rfl) len_L_bits
    (fun f cdv A outer s H E hr => (pss_cons (ps_set (i := 2) sc_L_bits.nd rfl (.inl rfl) (pe_lst pa_nil))
    (pss_cons (ps_for PassesOwn.never rfl (pi_range1 (by rfl) T.n_range (pa_cons (pv 1) pa_nil)) (pg_name (i := 3) sc_L_bits.nd rfl (.inl rfl)) (pss_cons (ps_expr (pe_bm PySem.F.plainAttrs_list PySem.F.slot_list_append PySem.F.type_list_append mt_append (pv 2) (pa_cons (pe_op op_mod (pv 0) pe_int) pa_nil)))
    (pss_one (ps_set (i := 0) sc_L_bits.nd rfl (.inl rfl) (pe_op op_fdiv (pv 0) pe_int)))))
    (pss_one (ps_ret (pv 2))))))
    (fun vs H Q E h => vr_L_bits vs H Q E h)
theorem ok_L_number (T : Tx K mg) : Cal P w K mg base 1 "_law_number" (sp_L_number K) :=
  cal_mk (t := (rd_L_number K)) T.d_L_number sc_L_number (fun _ _ _ _ _ _ us hl => match us, hl with | [_], _ => rfl) len_L_number
    (fun f cdv A outer s H E hr => (pss_cons (ps_set (i := 1) sc_L_number.nd rfl (.inl rfl) pe_int)
    (pss_cons (ps_for PassesOwn.never rfl (pi_list (pe_revL (pv 0))) (pg_name (i := 2) sc_L_number.nd rfl (.inl rfl)) (pss_one (ps_set (i := 1) sc_L_number.nd rfl (.inl rfl) (pe_op op_add (pe_op op_mul pe_int (pv 1)) (pv 2)))))
    (pss_one (ps_ret (pv 1))))))
    (fun vs H Q E h => vr_L_number vs H Q E h)
theorem ok_L_whole (T : Tx K mg) : Cal P w K mg base 1 "_law_whole" sp_L_whole :=
  cal_mk (t := (rd_L_whole K)) T.d_L_whole sc_L_whole (fun _ _ _ _ _ _ us hl => match us, hl with | [_], _ => rfl) len_L_whole
    (fun f cdv A outer s H E hr => (pss_one (ps_ret (pe_andT (pe_callB call_isi (by rfl) T.n_isinstance (by decide +kernel) (pa_cons (pv 0) (pa_cons (pe_bltn (by rfl) T.n_int (by decide +kernel) rfl) pa_nil))) (pe_one (pe_notT (pe_callB call_isi (by rfl) T.n_isinstance (by decide +kernel) (pa_cons (pv 0) (pa_cons (pe_bltn (by rfl) T.n_bool (by decide +kernel) rfl) pa_nil)))))))))
    (fun vs H Q E h => vr_L_whole vs H Q E h)
theorem ok_top_of (T : Tx K mg) : Cal P w K mg base 1 "top_of" sp_top_of :=
  cal_mk (t := rd_top_of) T.d_top_of sc_top_of (fun _ _ _ _ _ _ us hl => match us, hl with | [_], _ => rfl) len_top_of
    (fun f cdv A outer s H E hr => (pss_one (ps_ret (pe_op op_sub (pe_op op_shlW pe_int (pv 0)) pe_int))))
    (fun vs H Q E h => vr_top_of vs H Q E h)
theorem ok_two_words (T : Tx K mg) : Cal P w K mg base 2 "two_words" sp_two_words :=
  cal_mk (t := rd_two_words) T.d_two_words sc_two_words (fun _ _ _ _ _ _ us hl => match us, hl with | [_, _, _, _], _ => rfl) len_two_words
    (fun f cdv A outer s H E hr => (pss_cons (ps_if (pt_cmpR op_eq (pv 0) pe_str (nomark _)) (pss_one (ps_ret (pe_op op_and (pv 1) (pv 2))))
    pss_nil)
    (pss_cons (ps_if (pt_cmpR op_eq (pv 0) pe_str (nomark _)) (pss_one (ps_ret (pe_op op_or (pv 1) (pv 2))))
    pss_nil)
    (pss_cons (ps_if (pt_cmpR op_eq (pv 0) pe_str (nomark _)) (pss_one (ps_ret (pe_op op_xor (pv 1) (pv 2))))
    pss_nil)
    (pss_cons (ps_if (pt_cmpR op_eq (pv 0) pe_str (nomark _)) (pss_one (ps_ret (pe_op op_and (pe_op op_add (pv 1) (pv 2)) (pe_c (ok_top_of T) hr (by decide) (by rfl) (pa_cons (pv 3) pa_nil)))))
    pss_nil)
    (pss_cons (ps_if (pt_cmpR op_eq (pv 0) pe_str (nomark _)) (pss_one (ps_ret (pe_op op_and (pe_op op_sub (pv 1) (pv 2)) (pe_c (ok_top_of T) hr (by decide) (by rfl) (pa_cons (pv 3) pa_nil)))))
    pss_nil)
    (pss_cons (ps_if (pt_cmpR op_eq (pv 0) pe_str (nomark _)) (pss_one (ps_ret (pe_ifExp (pt_cmpR op_eq (pv 1) (pv 2) (nomark _)) pe_int pe_int)))
    pss_nil)
    (pss_one (ps_ret (pe_ifExp (pt_cmpR op_lt (pv 1) (pv 2) (nomark _)) pe_int pe_int))))))))))
    (fun vs H Q E h => vr_two_words vs H Q E h)
theorem ok_L_sum (T : Tx K mg) : Cal P w K mg base 1 "_law_sum" (sp_L_sum K) :=
  cal_mk (t := (rd_L_sum K)) T.d_L_sum sc_L_sum (fun _ _ _ _ _ _ us hl => match us, hl with | [_, _, _], _ => rfl) len_L_sum
    (fun f cdv A outer s H E hr => (pss_cons (ps_set (i := 3) sc_L_sum.nd rfl (.inl rfl) (pe_lst pa_nil))
    (pss_cons (ps_set (i := 4) sc_L_sum.nd rfl (.inl rfl) (pv 2))
    (pss_cons (ps_for PassesOwn.never rfl (pi_zip (by rfl) T.n_zip (pa_cons (pv 0) (pa_cons (pv 1) pa_nil))) (pg_tup rfl (pgs_cons (pg_name (i := 5) sc_L_sum.nd rfl (.inl rfl)) (pgs_cons (pg_name (i := 6) sc_L_sum.nd rfl (.inl rfl)) pgs_nil))) (pss_cons (ps_set (i := 7) sc_L_sum.nd rfl (.inl rfl) (pe_op op_add (pe_op op_add (pv 5) (pe_ifExp (pt_cmpR op_eq (pv 2) pe_int (nomark _)) (pe_op op_sub pe_int (pv 6)) (pv 6))) (pv 4)))
    (pss_cons (ps_expr (pe_bm PySem.F.plainAttrs_list PySem.F.slot_list_append PySem.F.type_list_append mt_append (pv 3) (pa_cons (pe_op op_mod (pv 7) pe_int) pa_nil)))
    (pss_one (ps_set (i := 4) sc_L_sum.nd rfl (.inl rfl) (pe_op op_fdiv (pv 7) pe_int))))))
    (pss_one (ps_ret (pv 3)))))))
    (fun vs H Q E h => vr_L_sum vs H Q E h)
theorem ok_L_less (T : Tx K mg) : Cal P w K mg base 1 "_law_less" (sp_L_less K) :=
  cal_mk (t := (rd_L_less K)) T.d_L_less sc_L_less (fun _ _ _ _ _ _ us hl => match us, hl with | [_, _], _ => rfl) len_L_less
    (fun f cdv A outer s H E hr => (pss_cons (ps_for PassesOwn.never rfl (pi_zip (by rfl) T.n_zip (pa_cons (pe_revL (pv 0)) (pa_cons (pe_revL (pv 1)) pa_nil))) (pg_tup rfl (pgs_cons (pg_name (i := 2) sc_L_less.nd rfl (.inl rfl)) (pgs_cons (pg_name (i := 3) sc_L_less.nd rfl (.inl rfl)) pgs_nil))) (pss_one (ps_if (pt_cmpR op_ne (pv 2) (pv 3) (nomark _)) (pss_one (ps_ret (pe_callTy call_int1 (by rfl) T.n_int (by decide +kernel) (pa_cons (pe_cmpR op_lt (pv 2) (pv 3) (nomark _)) pa_nil))))
    pss_nil)))
    (pss_one (ps_ret pe_int))))
    (fun vs H Q E h => vr_L_less vs H Q E h)
theorem ok_L_two (T : Tx K mg) : Cal P w K mg base 2 "_law_two" (sp_L_two K) :=
  cal_mk (t := (rd_L_two K)) T.d_L_two sc_L_two (fun _ _ _ _ _ _ us hl => match us, hl with | [_, _, _], _ => rfl) len_L_two
    (fun f cdv A outer s H E hr => (pss_cons (ps_if (PW.pt (pw_or (pt_cmpR op_eq (pv 0) pe_str (nomark _)) (pw_or1 (pt_cmpR op_eq (pv 0) pe_str (nomark _))))) (pss_one (ps_ret (pe_c (ok_L_number T) hr (by decide) (by rfl) (pa_cons (pe_c (ok_L_sum T) hr (by decide) (by rfl) (pa_cons (pv 1) (pa_cons (pv 2) (pa_cons (pe_callTy call_int1 (by rfl) T.n_int (by decide +kernel) (pa_cons (pe_cmpR op_eq (pv 0) pe_str (nomark _)) pa_nil)) pa_nil)))) pa_nil))))
    pss_nil)
    (pss_cons (ps_if (pt_cmpR op_eq (pv 0) pe_str (nomark _)) (pss_one (ps_ret (pe_callTy call_int1 (by rfl) T.n_int (by decide +kernel) (pa_cons (pe_cmpR (op_eqD (hu64 hr)) (pv 1) (pv 2) (nomark _)) pa_nil))))
    pss_nil)
    (pss_cons (ps_if (pt_cmpR op_eq (pv 0) pe_str (nomark _)) (pss_one (ps_ret (pe_c (ok_L_less T) hr (by decide) (by rfl) (pa_cons (pv 1) (pa_cons (pv 2) pa_nil)))))
    pss_nil)
    (pss_cons (ps_set (i := 3) sc_L_two.nd rfl (.inl rfl) (pe_lst pa_nil))
    (pss_cons (ps_for PassesOwn.never rfl (pi_zip (by rfl) T.n_zip (pa_cons (pv 1) (pa_cons (pv 2) pa_nil))) (pg_tup rfl (pgs_cons (pg_name (i := 4) sc_L_two.nd rfl (.inl rfl)) (pgs_cons (pg_name (i := 5) sc_L_two.nd rfl (.inl rfl)) pgs_nil))) (pss_one (ps_expr (pe_bm PySem.F.plainAttrs_list PySem.F.slot_list_append PySem.F.type_list_append mt_append (pv 3) (pa_cons (pe_ix ix_list (pe_lst (pa_cons (pe_op op_mul (pv 4) (pv 5)) (pa_cons (pe_callB (call_max2 rfl) (by rfl) T.n_max (by decide +kernel) (pa_cons (pv 4) (pa_cons (pv 5) pa_nil))) (pa_cons (pe_op op_mod (pe_op op_add (pv 4) (pv 5)) pe_int) pa_nil)))) (pe_bm PySem.F.plainAttrs_str PySem.F.slot_str_index PySem.F.type_str_index mt_sindex pe_str (pa_cons (pv 0) pa_nil)) (fun _ _ => rfl)) pa_nil)))))
    (pss_one (ps_ret (pe_c (ok_L_number T) hr (by decide) (by rfl) (pa_cons (pv 3) pa_nil))))))))))
    (fun vs H Q E h => vr_L_two vs H Q E h)
theorem ok_turned (T : Tx K mg) : Cal P w K mg base 2 "turned" sp_turned :=
  cal_mk (t := rd_turned) T.d_turned sc_turned (fun _ _ _ _ _ _ us hl => match us, hl with | [_, _], _ => rfl) len_turned
    (fun f cdv A outer s H E hr => (pss_one (ps_ret (pe_op op_xor (pv 0) (pe_c (ok_top_of T) hr (by decide) (by rfl) (pa_cons (pv 1) pa_nil))))))
    (fun vs H Q E h => vr_turned vs H Q E h)
theorem ok_cut_word (T : Tx K mg) : Cal P w K mg base 2 "cut_word" sp_cut_word :=
  cal_mk (t := rd_cut_word) T.d_cut_word sc_cut_word (fun _ _ _ _ _ _ us hl => match us, hl with | [_, _, _], _ => rfl) len_cut_word
    (fun f cdv A outer s H E hr => (pss_one (ps_ret (pe_op op_and (pe_op op_shr (pv 0) (pv 1)) (pe_c (ok_top_of T) hr (by decide) (by rfl) (pa_cons (pv 2) pa_nil))))))
    (fun vs H Q E h => vr_cut_word vs H Q E h)
theorem ok_joined_words (T : Tx K mg) : Cal P w K mg base 1 "joined_words" sp_joined_words :=
  cal_mk (t := rd_joined_words) T.d_joined_words sc_joined_words (fun _ _ _ _ _ _ us hl => match us, hl with | [_, _, _], _ => rfl) len_joined_words
    (fun f cdv A outer s H E hr => (pss_one (ps_ret (pe_op op_or (pe_op op_shlW (pv 0) (pv 2)) (pv 1)))))
    (fun vs H Q E h => vr_joined_words vs H Q E h)
theorem ok_L_right (T : Tx K mg) : Cal P w K mg base 3 "_law_right" sp_L_right :=
  cal_mk (t := (rd_L_right K)) T.d_L_right sc_L_right (fun _ _ _ _ _ _ us hl => match us, hl with | [_], _ => rfl) len_L_right
    (fun f cdv A outer s H E hr => (pss_cons (ps_set (i := 1) sc_L_right.nd rfl (.inl rfl) (pe_c (ok_L_width T) hr (by decide) (by rfl) (pa_cons (pv 0) pa_nil)))
    (pss_cons (ps_set (i := 2) sc_L_right.nd rfl (.inl rfl) (pe_c (ok_L_mixed T) hr (by decide) (by rfl) (pa_cons (pv 0) (pa_cons pe_int pa_nil))))
    (pss_cons (ps_set (i := 3) sc_L_right.nd rfl (.inl rfl) (pe_c (ok_L_word T) hr (by decide) (by rfl) (pa_cons (pv 2) (pa_cons (pv 1) pa_nil))))
    (pss_cons (ps_set (i := 4) sc_L_right.nd rfl (.inl rfl) (pe_c (ok_L_word T) hr (by decide) (by rfl) (pa_cons (pe_c (ok_L_mixed T) hr (by decide) (by rfl) (pa_cons (pv 0) (pa_cons pe_int pa_nil))) (pa_cons (pv 1) pa_nil))))
    (Evl.pss_cut (ps_if (pt_cmpR op_eq (pe_op op_mod (pe_op op_fdiv (pv 2) pe_int) pe_int) pe_int (nomark _)) (pss_one (ps_set (i := 4) sc_L_right.nd rfl (.inl rfl) (pv 3)))
    pss_nil)
    (pss_cons (ps_set (i := 5) sc_L_right.nd rfl (.inl rfl) (pe_c (ok_L_bits T) hr (by decide) (by rfl) (pa_cons (pv 3) (pa_cons (pv 1) pa_nil))))
    (pss_cons (ps_set (i := 6) sc_L_right.nd rfl (.inl rfl) (pe_c (ok_L_number T) hr (by decide) (by rfl) (pa_cons (pe_op op_rep (pe_lst (pa_cons pe_int pa_nil)) (pv 1)) pa_nil)))
    (pss_cons (ps_if (PW.pt (pw_or (pt_not (pt_truth (pe_c (ok_L_whole T) hr (by decide) (by rfl) (pa_cons (pe_c (ok_top_of T) hr (by decide) (by rfl) (pa_cons (pv 1) pa_nil)) pa_nil)) (by intro _; rfl))) (pw_or1 (pt_cmpR op_ne (pe_c (ok_top_of T) hr (by decide) (by rfl) (pa_cons (pv 1) pa_nil)) (pv 6) (nomark _))))) (pss_one (ps_ret pe_bl))
    pss_nil)
    (pss_cons (ps_set (i := 7) sc_L_right.nd rfl (.inl rfl) (pe_op op_mod (pe_c (ok_L_mixed T) hr (by decide) (by rfl) (pa_cons (pv 0) (pa_cons pe_int pa_nil))) pe_int))
    (pss_cons (ps_if (pt_cmpR op_lt (pv 7) pe_int (nomark _)) (pss_cons (ps_set (i := 8) sc_L_right.nd rfl (.inl rfl) (pe_ix ix_list (pe_lst (pa_cons pe_str (pa_cons pe_str (pa_cons pe_str (pa_cons pe_str (pa_cons pe_str (pa_cons pe_str (pa_cons pe_str pa_nil)))))))) (pv 7) (fun _ _ => rfl)))
    (pss_cons (ps_set (i := 9) sc_L_right.nd rfl (.inl rfl) (pe_c (ok_two_words T) hr (by decide) (by rfl) (pa_cons (pv 8) (pa_cons (pv 3) (pa_cons (pv 4) (pa_cons (pv 1) pa_nil))))))
    (pss_one (ps_ret (pe_andT (pe_c (ok_L_whole T) hr (by decide) (by rfl) (pa_cons (pv 9) pa_nil)) (pe_one (pe_cmpR op_eq (pv 9) (pe_c (ok_L_two T) hr (by decide) (by rfl) (pa_cons (pv 8) (pa_cons (pv 5) (pa_cons (pe_c (ok_L_bits T) hr (by decide) (by rfl) (pa_cons (pv 4) (pa_cons (pv 1) pa_nil))) pa_nil)))) (nomark _))))))))
    pss_nil)
    (pss_cons (ps_if (pt_cmpR op_eq (pv 7) pe_int (nomark _)) (pss_cons (ps_set (i := 9) sc_L_right.nd rfl (.inl rfl) (pe_c (ok_turned T) hr (by decide) (by rfl) (pa_cons (pv 3) (pa_cons (pv 1) pa_nil))))
    (pss_one (ps_ret (pe_andT (pe_c (ok_L_whole T) hr (by decide) (by rfl) (pa_cons (pv 9) pa_nil)) (pe_one (pe_cmpR op_eq (pv 9) (pe_c (ok_L_number T) hr (by decide) (by rfl) (pa_cons (pe_lc (own := [("_law_bit", 12)]) (g := (gName 12)) (tt := tYes) rfl sc_L_right.nd (pi_list (pv 5)) (blkOk_by (N := ["_law_cell", "_law_width_here", "_law_more", "_law_one", "_law_other", "_law_bits_here", "_law_top", "_law_way", "_law_sign", "_law_found", "_law_low", "_law_many", "_law_bit"]) (sc := defScope s_L_right) (by decide +kernel)) (fun _ _ _ _ _ => (pg_name (i := 12) sc_L_right.nd rfl (.inl rfl))) (fun _ _ _ _ _ => pts_nil) (fun _ _ _ _ _ => (pe_op op_sub pe_int (pv 12)))) pa_nil)) (nomark _)))))))
    pss_nil)
    (pss_cons (ps_set (i := 10) sc_L_right.nd rfl (.inl rfl) (pe_op op_mod (pe_c (ok_L_mixed T) hr (by decide) (by rfl) (pa_cons (pv 0) (pa_cons pe_int pa_nil))) pe_int))
    (pss_cons (ps_set (i := 11) sc_L_right.nd rfl (.inl rfl) (pe_op op_add pe_int (pe_op op_mod (pe_c (ok_L_mixed T) hr (by decide) (by rfl) (pa_cons (pv 0) (pa_cons pe_int pa_nil))) pe_int)))
    (pss_cons (ps_if (pt_cmpR op_eq (pv 7) pe_int (nomark _)) (pss_cons (ps_set (i := 9) sc_L_right.nd rfl (.inl rfl) (pe_c (ok_cut_word T) hr (by decide) (by rfl) (pa_cons (pv 3) (pa_cons (pv 10) (pa_cons (pv 11) pa_nil)))))
    (pss_one (ps_ret (pe_andT (pe_c (ok_L_whole T) hr (by decide) (by rfl) (pa_cons (pv 9) pa_nil)) (pe_one (pe_cmpR op_eq (pv 9) (pe_c (ok_L_number T) hr (by decide) (by rfl) (pa_cons (pe_slice sl_list (pv 5) (po_some (pv 10)) (po_some (pe_op op_add (pv 10) (pv 11)))) pa_nil)) (nomark _)))))))
    pss_nil)
    (pss_cons (ps_set (i := 9) sc_L_right.nd rfl (.inl rfl) (pe_c (ok_joined_words T) hr (by decide) (by rfl) (pa_cons (pv 4) (pa_cons (pv 3) (pa_cons (pv 1) pa_nil)))))
    (pss_one (ps_ret (pe_andT (pe_c (ok_L_whole T) hr (by decide) (by rfl) (pa_cons (pv 9) pa_nil)) (pe_one (pe_cmpR op_eq (pv 9) (pe_c (ok_L_number T) hr (by decide) (by rfl) (pa_cons (pe_op op_cat (pv 5) (pe_c (ok_L_bits T) hr (by decide) (by rfl) (pa_cons (pv 4) (pa_cons (pv 1) pa_nil)))) pa_nil)) (nomark _))))))))))))))))))))))
    (fun vs H Q E h => vr_L_right vs H Q E h)
theorem ok_law (T : Tx K mg) : Cal P w K mg base 4 "law" (sp_law K) :=
  cal_mk (t := (rd_law K)) T.d_law sc_law (fun _ _ _ _ _ _ us hl => match us, hl with | [_], _ => rfl) len_law
    (fun f cdv A outer s H E hr => (pss_cons (ps_if (pt_cmpR op_ne (pe_gc (by rfl) T.c_MOST_WIDTH) pe_int (nomark _)) (pss_one (ps_ret pe_bl))
    pss_nil)
    (pss_cons (ps_for PassesOwn.never rfl (pi_list (pe_op op_cat (pe_slice sl_list (pv 0) po_none (po_some pe_int)) (pe_lst (pa_cons pe_int pa_nil)))) (pg_name (i := 1) sc_law.nd rfl (.inl rfl)) (pss_one (ps_if (pt_not (pt_truth (pe_c (ok_L_right T) hr (by decide) (by rfl) (pa_cons (pe_op op_mod (pv 1) pe_int) pa_nil)) (by intro _; rfl))) (pss_one (ps_ret pe_bl))
    pss_nil)))
    (pss_one (ps_ret pe_bl)))))
    (fun vs H Q E h => vr_law vs H Q E h)
end
def dd_L_width : He.DefD := ⟨("_law_width", none), "_law_width", "_law_width", defArgs s_L_width, defBody s_L_width, defScope s_L_width, [], []⟩
def dd_L_mixed : He.DefD := ⟨("_law_mixed", none), "_law_mixed", "_law_mixed", defArgs s_L_mixed, defBody s_L_mixed, defScope s_L_mixed, [], []⟩
def dd_L_word : He.DefD := ⟨("_law_word", none), "_law_word", "_law_word", defArgs s_L_word, defBody s_L_word, defScope s_L_word, [], []⟩
def dd_L_bits : He.DefD := ⟨("_law_bits", none), "_law_bits", "_law_bits", defArgs s_L_bits, defBody s_L_bits, defScope s_L_bits, [], []⟩
def dd_L_number : He.DefD := ⟨("_law_number", none), "_law_number", "_law_number", defArgs s_L_number, defBody s_L_number, defScope s_L_number, [], []⟩
def dd_L_whole : He.DefD := ⟨("_law_whole", none), "_law_whole", "_law_whole", defArgs s_L_whole, defBody s_L_whole, defScope s_L_whole, [], []⟩
def dd_top_of : He.DefD := ⟨("top_of", none), "top_of", "top_of", defArgs s_top_of, defBody s_top_of, defScope s_top_of, [], []⟩
def dd_two_words : He.DefD := ⟨("two_words", none), "two_words", "two_words", defArgs s_two_words, defBody s_two_words, defScope s_two_words, [], []⟩
def dd_L_sum : He.DefD := ⟨("_law_sum", none), "_law_sum", "_law_sum", defArgs s_L_sum, defBody s_L_sum, defScope s_L_sum, [], []⟩
def dd_L_less : He.DefD := ⟨("_law_less", none), "_law_less", "_law_less", defArgs s_L_less, defBody s_L_less, defScope s_L_less, [], []⟩
def dd_L_two : He.DefD := ⟨("_law_two", none), "_law_two", "_law_two", defArgs s_L_two, defBody s_L_two, defScope s_L_two, [], []⟩
def dd_turned : He.DefD := ⟨("turned", none), "turned", "turned", defArgs s_turned, defBody s_turned, defScope s_turned, [], []⟩
def dd_cut_word : He.DefD := ⟨("cut_word", none), "cut_word", "cut_word", defArgs s_cut_word, defBody s_cut_word, defScope s_cut_word, [], []⟩
def dd_joined_words : He.DefD := ⟨("joined_words", none), "joined_words", "joined_words", defArgs s_joined_words, defBody s_joined_words, defScope s_joined_words, [], []⟩
def dd_L_right : He.DefD := ⟨("_law_right", none), "_law_right", "_law_right", defArgs s_L_right, defBody s_L_right, defScope s_L_right, [], []⟩
def dd_law : He.DefD := ⟨("law", none), "law", "law", defArgs s_law, defBody s_law, defScope s_law, [], []⟩
def fnD : List He.DefD := [dd_L_width, dd_L_mixed, dd_L_word, dd_L_bits, dd_L_number, dd_L_whole, dd_top_of, dd_two_words, dd_L_sum, dd_L_less, dd_L_two, dd_turned, dd_cut_word, dd_joined_words, dd_L_right, dd_law]
def faD : List He.Fa := [.glo "_law_width", .glo "_law_mixed", .glo "_law_word", .glo "_law_bits", .glo "_law_number", .glo "_law_whole", .glo "top_of", .glo "two_words", .glo "_law_sum", .glo "_law_less", .glo "_law_two", .glo "turned", .glo "cut_word", .glo "joined_words", .glo "_law_right", .glo "law", .free "bool", .free "int", .free "isinstance", .free "max", .free "range", .free "zip", .int "MOST_WIDTH" 64]
def exD : PySem.W.Frag → Bool := fun K => true
theorem tx_of {K : PySem.W.Frag} {h : Heap} {mg : Str → Option Value} (X : K.In h) (G : h.Ns mainGlobals mg) (c : He.SaysD faD fnD K) (ex : exD K = true) : Tx K mg where
  d_L_width := by
    obtain ⟨fd, F⟩ := c.def_ 0 (d := dd_L_width) rfl
    exact ⟨_, fd, F, He.glo_ok X G (c.fact 0 (f := .glo "_law_width") rfl)⟩
  d_L_mixed := by
    obtain ⟨fd, F⟩ := c.def_ 1 (d := dd_L_mixed) rfl
    exact ⟨_, fd, F, He.glo_ok X G (c.fact 1 (f := .glo "_law_mixed") rfl)⟩
  d_L_word := by
    obtain ⟨fd, F⟩ := c.def_ 2 (d := dd_L_word) rfl
    exact ⟨_, fd, F, He.glo_ok X G (c.fact 2 (f := .glo "_law_word") rfl)⟩
  d_L_bits := by
    obtain ⟨fd, F⟩ := c.def_ 3 (d := dd_L_bits) rfl
    exact ⟨_, fd, F, He.glo_ok X G (c.fact 3 (f := .glo "_law_bits") rfl)⟩
  d_L_number := by
    obtain ⟨fd, F⟩ := c.def_ 4 (d := dd_L_number) rfl
    exact ⟨_, fd, F, He.glo_ok X G (c.fact 4 (f := .glo "_law_number") rfl)⟩
  d_L_whole := by
    obtain ⟨fd, F⟩ := c.def_ 5 (d := dd_L_whole) rfl
    exact ⟨_, fd, F, He.glo_ok X G (c.fact 5 (f := .glo "_law_whole") rfl)⟩
  d_top_of := by
    obtain ⟨fd, F⟩ := c.def_ 6 (d := dd_top_of) rfl
    exact ⟨_, fd, F, He.glo_ok X G (c.fact 6 (f := .glo "top_of") rfl)⟩
  d_two_words := by
    obtain ⟨fd, F⟩ := c.def_ 7 (d := dd_two_words) rfl
    exact ⟨_, fd, F, He.glo_ok X G (c.fact 7 (f := .glo "two_words") rfl)⟩
  d_L_sum := by
    obtain ⟨fd, F⟩ := c.def_ 8 (d := dd_L_sum) rfl
    exact ⟨_, fd, F, He.glo_ok X G (c.fact 8 (f := .glo "_law_sum") rfl)⟩
  d_L_less := by
    obtain ⟨fd, F⟩ := c.def_ 9 (d := dd_L_less) rfl
    exact ⟨_, fd, F, He.glo_ok X G (c.fact 9 (f := .glo "_law_less") rfl)⟩
  d_L_two := by
    obtain ⟨fd, F⟩ := c.def_ 10 (d := dd_L_two) rfl
    exact ⟨_, fd, F, He.glo_ok X G (c.fact 10 (f := .glo "_law_two") rfl)⟩
  d_turned := by
    obtain ⟨fd, F⟩ := c.def_ 11 (d := dd_turned) rfl
    exact ⟨_, fd, F, He.glo_ok X G (c.fact 11 (f := .glo "turned") rfl)⟩
  d_cut_word := by
    obtain ⟨fd, F⟩ := c.def_ 12 (d := dd_cut_word) rfl
    exact ⟨_, fd, F, He.glo_ok X G (c.fact 12 (f := .glo "cut_word") rfl)⟩
  d_joined_words := by
    obtain ⟨fd, F⟩ := c.def_ 13 (d := dd_joined_words) rfl
    exact ⟨_, fd, F, He.glo_ok X G (c.fact 13 (f := .glo "joined_words") rfl)⟩
  d_L_right := by
    obtain ⟨fd, F⟩ := c.def_ 14 (d := dd_L_right) rfl
    exact ⟨_, fd, F, He.glo_ok X G (c.fact 14 (f := .glo "_law_right") rfl)⟩
  d_law := by
    obtain ⟨fd, F⟩ := c.def_ 15 (d := dd_law) rfl
    exact ⟨_, fd, F, He.glo_ok X G (c.fact 15 (f := .glo "law") rfl)⟩
  n_bool := He.free_ok X G (c.fact 16 (f := .free "bool") rfl)
  n_int := He.free_ok X G (c.fact 17 (f := .free "int") rfl)
  n_isinstance := He.free_ok X G (c.fact 18 (f := .free "isinstance") rfl)
  n_max := He.free_ok X G (c.fact 19 (f := .free "max") rfl)
  n_range := He.free_ok X G (c.fact 20 (f := .free "range") rfl)
  n_zip := He.free_ok X G (c.fact 21 (f := .free "zip") rfl)
  c_MOST_WIDTH := by
    obtain ⟨t, e⟩ := He.int_ok X G (c.fact 22 (f := .int "MOST_WIDTH" 64) rfl)
    exact ⟨_, e, t, rfl⟩
abbrev R : PySem.W.OpenRow := PySem.W.OpenLaw.row PySem.Challenge.rw_wireyard_k01_words_of_bits
def loose0 : List PySem.Str := ["MOST_WIDTH", "top_of", "turned", "two_words", "cut_word", "joined_words", "_law_mixed", "_law_whole", "_law_width", "_law_word", "_law_bits", "_law_number", "_law_sum", "_law_less", "_law_two", "_law_right"]
def loose : List PySem.Str := loose0
abbrev hk : PySem.W.Hook := Z.hookZ faD fnD exD 4
def ob (s : PySem.W.SharedT) : He.AlD × Bool := Z.lookZ faD fnD exD 4 (HandSHeadRun.getT s)
theorem ob_eq (s : PySem.W.SharedT) : ob s = hk.obs s.abs := Z.lookZ_eq (HandSHeadRun.getT_eq s)
theorem run (w : World) : HandSHeadRun.RunEq R (PySem.W.view R.prog [18]) hk ob 4000 loose w := by
  intro os
  kernel_rfl
theorem fn_law {P : Program} {w : World} {K : PySem.W.Frag} {mg : Str → Option Value} {base : Heap} {f : Addr} {fd : FuncData} (F : FunD K "law" "law" (defArgs s_law) (defBody s_law) (defScope s_law) [] [] f fd) (T : Tx K mg) : FnOk P w K mg base CX0 4 f fd ["_law_script"] (sp_law K) :=
  F.ok sc_law len_law fun cdv A outer s H vs Q E hr h => ⟨(rd_law K), PSs.nox ((pss_cons (ps_if (pt_cmpR op_ne (pe_gc (by rfl) T.c_MOST_WIDTH) pe_int (nomark _)) (pss_one (ps_ret pe_bl))
    pss_nil)
    (pss_cons (ps_for PassesOwn.never rfl (pi_list (pe_op op_cat (pe_slice sl_list (pv 0) po_none (po_some pe_int)) (pe_lst (pa_cons pe_int pa_nil)))) (pg_name (i := 1) sc_law.nd rfl (.inl rfl)) (pss_one (ps_if (pt_not (pt_truth (pe_c (ok_L_right T) hr (by decide) (by rfl) (pa_cons (pe_op op_mod (pv 1) pe_int) pa_nil)) (by intro _; rfl))) (pss_one (ps_ret pe_bl))
    pss_nil)))
    (pss_one (ps_ret pe_bl))))), vr_law vs H Q E h⟩
theorem facts {P : Program} {w : World} {K : PySem.W.Frag} {h : Heap} {mg : Str → Option Value} {f : Addr} (X : K.In h) (G : h.Ns mainGlobals mg) (hfa : mg ("law" : Str) = some (.ref f)) (c : He.SaysD faD fnD K) (x : exD K = true) :
    ∃ fd : FuncData, (∀ (s : Shared) (v : Value), BindsTo s fd ⟨[v], []⟩ [("_law_script", v)]) ∧ ∀ base : Heap, K.In base → base.Ns mainGlobals mg → FnOk P w K mg base CX0 4 f fd ["_law_script"] (sp_law K) := by
  have T : Tx K mg := tx_of X G c x
  obtain ⟨fd, F⟩ := c.def_ 15 (d := dd_law) rfl
  have e := hfa.symm.trans (He.glo_ok X G (c.fact 15 (f := .glo "law") rfl))
  cases e
  have b := FunD.bindsA (ps := ["_law_script"]) F fun _ _ _ _ _ _ us hl => match us, hl with | [_], _ => rfl
  refine ⟨fd, fun s v => b s [v] rfl, fun base _ _ => ?_⟩
  exact fn_law F T
end K01
open PySem PySem.W PySem.Calls PyProof.Rows
set_option maxHeartbeats 0 in
theorem PySem.Challenge.cw_wireyard_k01_words_of_bits_holds : PySem.Challenge.rw_wireyard_k01_words_of_bits.Holds := by
  w_on; o_law
  refine HandSHeadRun.head_any (r := K01.R) (q := view K01.R.prog [18]) (H := K01.hk) (ob := K01.ob) (M := 4000) (loose := K01.loose) (d := HandSHeadRun.topDef K01.R.prog 18) (kwd := []) K01.ob_eq
    (by kernel_rfl) (fun s => by kernel_rfl) K01.run (by kernel_rfl) (by kernel_rfl) (by kernel_rfl) (by rfl) (by first | assumption | decide +kernel) (by decide +kernel) ⟨rfl, rfl, rfl, rfl, rfl, by decide +kernel⟩ ?hw ?hc
  case hw => w_witness2
  case hc =>
    refine L2.walk_ofE (l := PySem.Challenge.rw_wireyard_k01_words_of_bits) (n := 63) (k := 4) (x := "_law_script") (CX := L2.CX0) rfl (by decide) (by kernel_rfl) ⟨rfl, by decide, by decide⟩ ?F (fun _ _ _ _ z => z)
    intro w mg fa h Y G hmg0
    obtain ⟨K, KX, c, x⟩ := Y
    have hmg : mg ("law" : PySem.Str) = some (.ref fa) := by
      have e : (HandSHeadRun.topDef K01.R.prog 18).name = ("law" : PySem.Str) := by kernel_rfl
      rw [← e]
      exact hmg0
    obtain ⟨fd, hb, hF⟩ := K01.facts (P := (PySem.Challenge.rw_wireyard_k01_words_of_bits).prog) (w := w) KX G hmg c x
    exact ⟨K, fd, K01.sp_law K, KX, hb, fun H a ns hl _ hS => ⟨a, ns, rfl, hS, hl, fun _ _ => rfl⟩, hF⟩
