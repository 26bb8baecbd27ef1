import PyProof.Rows.All
import Wide.All
import OpenK.AllK
import Wide.FinOn
import Lean
import KE.KStateDown
import HandS.ForMost
import HandS.Walk
import HandS.Evl
import HandS.Flow
import HandS.Style
import HandS.WideBits
import HandS.Defaults
import HandS.IsInst
import HandS.More
import HandS.Replace
import HandS.TupLe
import HandS.RevRange
import HandS.Conv
import HandS.TupAny
import KE.IntTextLaws
import HandS.Head0
import HandS.Head1
import HandS.Head2
import HandS.HeadEnd
import HandS.HeadHook1
import HandS.HeadHook2
import PySem.Challenge.RW_wireyard_k03_words_of_rows
set_option Elab.async false
set_option linter.all false
set_option maxRecDepth 100000
set_option maxHeartbeats 4000000
/-! Z: my own short steps over the hand layer: one lemma a reading, in the order in which the code runs; heaps are letters, joined by Ex. -/
namespace Z
open PySem PySem.Spec PyProof.Rows L2
open Evl (Ex ex_l ex_t ex_rd sq_of st_of fresh_back)

/-! ### short names of readings -/
abbrev rAddI : R2 := rI0 fun i j => .int (i + j)
abbrev rSubI : R2 := rI0 fun i j => .int (i - j)
abbrev rMulI : R2 := rI CMul fun i j => .int (i * j)
abbrev rMulX : R2 := rI CMulX fun i j => .int (i * j)
abbrev rDivI : R2 := rI CDiv fun i j => .int (i / j)
abbrev rDivW : R2 := rI CDivW fun i j => .int (i / j)
abbrev rIndexS : V → List V → Hp → VK → Prop := fun x xs H Q => ∃ a b i rest, x = .str a ∧ xs = [.str b] ∧ Builtin.Str.occurrences a b 0 a.length 1 = i :: rest ∧ Q (.int (i : Nat)) H
abbrev rModI : R2 := rI (fun _ j => 0 < j) fun i j => .int (i % j)
abbrev rPowI : R2 := rI CPow fun i j => .int (i ^ j.toNat)
abbrev rShlI : R2 := rI CShl fun i j => .int (i * 2 ^ j.toNat)
abbrev rShrI : R2 := rI (fun _ j => 0 ≤ j) fun i j => .int (i / 2 ^ j.toNat)
abbrev rAndI : R2 := rI0 fun i j => .int (Builtin.bitAnd i j)
abbrev rOrI : R2 := rI0 fun i j => .int (Builtin.bitOr i j)
abbrev rXorI : R2 := rI0 fun i j => .int (Builtin.bitXor i j)
abbrev rLtI : R2 := rI0 fun i j => .bl (decide (i < j))
abbrev rLeI : R2 := rI0 fun i j => .bl (decide (i ≤ j))
abbrev rGtI : R2 := rI0 fun i j => .bl (decide (j < i))
abbrev rGeI : R2 := rI0 fun i j => .bl (decide (j ≤ i))
abbrev rNegI : V → Hp → VK → Prop := rU fun i => .int (-i)
def rAddStr : R2 := fun x y H Q => ∃ i j, x = .str i ∧ y = .str j ∧ i.length + j.length ≤ sizeLine ∧ Q (.str (i ++ j)) H
def rInSgn : R2 := fun x y H Q => ∃ (c : Nat) (z : Str), x = .str ⟨#[c]⟩ ∧ y = .str z ∧ Q (.bl (decide (c ∈ z.cps.toList))) H
def rNinSgn : R2 := fun x y H Q => ∃ (c : Nat) (z : Str), x = .str ⟨#[c]⟩ ∧ y = .str z ∧ Q (.bl (!decide (c ∈ z.cps.toList))) H
abbrev cLenSeq (K : PySem.W.Frag) : List V → Hp → VK → Prop := fun xs H Q => ∃ p ys, xs = [.ref p] ∧ (SqL K H p ys ∨ SqT K H p ys) ∧ Q (.int ys.length) H
abbrev cLenStr : List V → Hp → VK → Prop := fun xs H Q => ∃ z, xs = [.str z] ∧ z.length ≤ sizeLine ∧ Q (.int z.length) H
abbrev cInt1 : List V → Hp → VK → Prop := fun xs H Q => (∃ i, xs = [.int i] ∧ Q (.int i) H) ∨ ∃ k, xs = [.bl k] ∧ Q (.int (if k then 1 else 0)) H
abbrev cMax2 : List V → Hp → VK → Prop := fun xs H Q => ∃ i j, xs = [.int i, .int j] ∧ Q (.int (if j > i then j else i)) H
abbrev cMin2 : List V → Hp → VK → Prop := fun xs H Q => ∃ i j, xs = [.int i, .int j] ∧ Q (.int (if j < i then j else i)) H
abbrev rIsBl : R2 := fun x y H Q => ∃ a b, x = .bl a ∧ y = .bl b ∧ Q (.bl (decide (a = b))) H
abbrev rNotBl : R2 := fun x y H Q => ∃ a b, x = .bl a ∧ y = .bl b ∧ Q (.bl (!decide (a = b))) H
def rMulStr : R2 := fun x y H Q => ∃ (s : Str) (n : Int), x = .str s ∧ y = .int n ∧ MulOk s n ∧ Q (.str (Txt.mul s n)) H
theorem op_mul_str {X : Cx} : OpR X (binaryOp .Mult) rMulStr := fun pins s σ H x y v u Q I rx ry h => by
  obtain ⟨z, n, rfl, rfl, hz, q⟩ := h
  obtain ⟨t1, rfl⟩ := rx
  obtain ⟨t2, rfl⟩ := ry
  exact SB.mul hz fun t' k => ⟨.str (Txt.mul z n), H, I.tok _, ⟨_, rfl⟩, q⟩
abbrev rJoin (K : PySem.W.Frag) : V → List V → Hp → VK → Prop := fun x xs H Q => ∃ a p, ∃ ys : List Str, x = .str a ∧ xs = [.ref p] ∧ (SqL K H p (ys.map V.str) ∨ SqT K H p (ys.map V.str)) ∧ (ys.map (·.length)).sum + ys.length * a.length ≤ 16777216 ∧ Q (.str (Txt.join a ys)) H
abbrev cStrInt : List V → Hp → VK → Prop := fun xs H Q => ∃ i : Int, xs = [.int i] ∧ i.natAbs.log2 < 1920 ∧ Q (.str (toString i)) H
abbrev cIntStr : List V → Hp → VK → Prop := fun xs H Q => ∃ a n, xs = [.str a] ∧ PySem.intText? a = some n ∧ a.length ≤ 640 ∧ Q (.int n) H
abbrev rPartition : V → List V → Hp → VK → Prop := fun x xs H Q => ∃ a b, x = .str a ∧ xs = [.str b] ∧ (b.length == 0) = false ∧ a.length ≤ sizeLine ∧ ∀ p, H p = none → Q (.ref p) (upd H p (.tup [.str (Txt.partition a b).1, .str (Txt.partition a b).2.1, .str (Txt.partition a b).2.2]))
abbrev rSplit : V → List V → Hp → VK → Prop := fun x xs H Q => ∃ a b, x = .str a ∧ xs = [.str b] ∧ (b.length == 0) = false ∧ a.length + 2 ≤ sizeLine ∧ ∀ p, H p = none → Q (.ref p) (upd H p (.lst ((Txt.split a b).map V.str)))
abbrev rUpper : V → List V → Hp → VK → Prop := fun x xs H Q => ∃ a, x = .str a ∧ xs = [] ∧ a.length ≤ 5592405 ∧ Q (.str (Txt.upper a)) H
abbrev tTru (K : PySem.W.Frag) (ta : TE) : TT := fun σ H Q => ta σ H fun x H' => ∃ k, TruV K x H' k ∧ Q k H'

/-! ### a def of the module and its promise -/
def DX (K : PySem.W.Frag) (mg : Str → Option Value) (x : Str) (st : Stmt) : Prop := ∃ f fd, FunD K x x (defArgs st) (defBody st) (defScope st) [] [] f fd ∧ mg x = some (.ref f)
structure Cal (P : Program) (w : World) (K : PySem.W.Frag) (mg : Str → Option Value) (base : Heap) (k : Nat) (x : Str) (sp : Sp) : Prop where
  ex : ∃ (f : Addr) (fd : FuncData) (ps : List Str), FnOk P w K mg base CX0 k f fd ps sp ∧ mg x = some (.ref f) ∧ PySem.W.keepIn K (.ref f) = true ∧ Binds K fd ps []
section
variable {X : Cx} {k j : Nat} {x : Str} {sp : Sp} {p pos : Pos} {e : Expr} {es : List Expr} {t : TA}
theorem pe_c (c : Cal X.prog X.w X.K X.mg X.base k x sp) (hr : Room j X.A) (hk : k ≤ j) (hg : Gl X x) (ha : PA X (e :: es) t)
    (hdb : (x == ("__debug__" : Str)) = false := by decide) (he : starEach (e :: es) X.env = (false, eval e X.env) :: starEach es X.env := by rfl) (hpl : (backTo pos (starEach es X.env)).any (·.1) = false := by rfl) :
    PE X (.Call (.Name x p) (e :: es) [] pos) (tCall sp [] E0 t) := by
  obtain ⟨f, fd, ps, F, hm, kp, b⟩ := c.ex
  exact pe_call F (hr.mono hk) hg hm kp b .nil pass0 ha hdb he hpl
theorem pe_c0 (c : Cal X.prog X.w X.K X.mg X.base k x sp) (hr : Room j X.A) (hk : k ≤ j) (hg : Gl X x) (hdb : (x == ("__debug__" : Str)) = false := by decide) :
    PE X (.Call (.Name x p) [] [] pos) (tCall sp [] E0 tNil) := by
  obtain ⟨f, fd, ps, F, hm, kp, b⟩ := c.ex
  exact pe_call0 F (hr.mono hk) hg hm kp b .nil pass0 hdb
/-- a name of the module, by its value -/
theorem pe_gc {v : V} (hg : Gl X x) (h : ∃ u, X.mg x = some u ∧ RelV v u) (hd : (x == ("__debug__" : Str)) = false := by decide) : PE X (.Name x pos) (tC v) := by
  obtain ⟨u, hm, r⟩ := h
  exact pe_glob hg hm r hd
end
section
variable {P : Program} {w : World} {K : PySem.W.Frag} {mg : Str → Option Value} {base : Heap}
theorem cal_mk {x : Str} {st : Stmt} {N ps : List Str} {k : Nat} {sp : Sp} {t : TS} (D : DX K mg x st) (S : FnScope N ps (defScope st))
    (hb : ∀ (kV doc pm : Value) (an : Option Addr) (cdv ct : Value) (us : List Value), us.length = ps.length → bindArgs (PySem.W.fnOf x x (defArgs st) (defBody st) (defScope st) .none kV doc pm an cdv ct) ⟨us, []⟩ = pure (ps.zip us))
    (len : ∀ vs H Q E, sp vs H Q E → vs.length = ps.length)
    (hd : ∀ (f : Addr) (cdv : Value) (A : Around) (outer : List Env) (s : Shared) (H : Hp) (E : XK), Room k (A.deeper (envOfC x (defScope st) s.heap.objs.size f cdv)) → PSs (cxOf CX0 P w K mg base N x (defScope st) f cdv A outer s H E).nox (defBody st) t)
    (hv : ∀ vs H Q E, sp vs H Q E → t { nx := fun _ H' => Q .non H', rt := Q } (start N vs) H) : Cal P w K mg base (k + 1) x sp := by
  obtain ⟨f, fd, F, hm⟩ := D
  exact ⟨f, fd, ps, F.ok S len fun cdv A outer s H vs Q E hr h => ⟨t, PSs.nox (hd f cdv A outer s H E hr), hv vs H Q E h⟩, hm, F.kp, F.bindsN hb⟩
end
theorem hu64 {A : Around} {k : Nat} (hr : Room k A) : A.units + 64 < cLine := by have := hr.un; omega

/-! ### heaps: the facts of an elder one -/
section
variable {K : PySem.W.Frag} {σ : L2.St} {H H' : Hp} {Q : VK} {QB : Bool → Hp → Prop} {QA : List V → Hp → Prop} {QO : Option Int → Hp → Prop} {D : Ends} {v x y : V} {i j : Int} {a p : Addr} {xs : List V} {s z : Str} {b : Bool}
variable {ta tb te tc : TE} {t u : TT} {tl th : TO} {tr : TA} {ts tu : TS} {r : R2} {g : TG}

theorem szl {n : Nat} (h : n ≤ 1000) : n ≤ sizeLine := Nat.le_trans h (by decide)
theorem szlt {n : Nat} (h : n ≤ 1000) : n < sizeLine := Nat.lt_of_le_of_lt h (by decide)
/-! ### expressions -/
theorem z_var {n : Nat} (h : σ[n]? = some (some v)) (q : Q v H) : tVar n σ H Q := ⟨v, h, q⟩
theorem z_c (q : Q v H) : tC v σ H Q := q
theorem z_op (q : ta σ H fun x H1 => tb σ H1 fun y H2 => r x y H2 Q) : tOp r ta tb σ H Q := q
theorem z_un {r : V → Hp → VK → Prop} (q : ta σ H fun x H1 => r x H1 Q) : tUn r ta σ H Q := q
theorem z_i0 {f : Int → Int → V} (q : Q (f i j) H) : rI0 f (.int i) (.int j) H Q := ⟨i, j, rfl, rfl, q⟩
theorem z_i {C : Int → Int → Prop} {f : Int → Int → V} (h : C i j) (q : Q (f i j) H) : rI C f (.int i) (.int j) H Q := ⟨i, j, rfl, rfl, h, q⟩
theorem z_u {f : Int → V} (q : Q (f i) H) : rU f (.int i) H Q := ⟨i, rfl, q⟩
theorem z_eq (h : scal x y = true) (q : Q (.bl (decide (x = y))) H) : rEq x y H Q := ⟨h, q⟩
theorem z_ne (h : scal x y = true) (q : Q (.bl (!decide (x = y))) H) : rNe x y H Q := ⟨h, q⟩
theorem z_addS (h : s.length + z.length ≤ sizeLine) (q : Q (.str (s ++ z)) H) : rAddStr (.str s) (.str z) H Q := ⟨s, z, rfl, rfl, h, q⟩
theorem z_inS {c : Nat} (q : Q (.bl (decide (c ∈ z.cps.toList))) H) : rInSgn (.str ⟨#[c]⟩) (.str z) H Q := ⟨c, z, rfl, rfl, q⟩
theorem z_ninS {c : Nat} (q : Q (.bl (!decide (c ∈ z.cps.toList))) H) : rNinSgn (.str ⟨#[c]⟩) (.str z) H Q := ⟨c, z, rfl, rfl, q⟩
theorem z_if (q : t σ H fun c H1 => if c = true then ta σ H1 Q else tb σ H1 Q) : tIf t ta tb σ H Q := q
theorem z_andT (q : ta σ H fun x H1 => ∃ k, TruV K x H1 k ∧ if k = true then tb σ H1 Q else Q x H1) : tAndT K ta tb σ H Q := q
theorem z_orT (q : ta σ H fun x H1 => ∃ k, TruV K x H1 k ∧ if k = true then Q x H1 else tb σ H1 Q) : tOrT K ta tb σ H Q := q
theorem z_notT (q : ta σ H fun x H1 => ∃ k, TruV K x H1 k ∧ Q (.bl (!k)) H1) : tNotT K ta σ H Q := q
theorem z_isN (q : ta σ H fun x H1 => Q (.bl (decide (x = .non))) H1) : tIsN ta σ H Q := q
theorem z_notN (q : ta σ H fun x H1 => Q (.bl (!decide (x = .non))) H1) : tNotN ta σ H Q := q
theorem z_nil (q : QA [] H) : tNil σ H QA := q
theorem z_cons (q : te σ H fun x H1 => tr σ H1 fun xs H2 => QA (x :: xs) H2) : tCons te tr σ H QA := q
theorem z_call {sp : Sp} {E : XK} (q : tr σ H fun vs H1 => sp (vs ++ []) H1 Q E) : tCall sp [] E tr σ H Q := q
theorem z_cb {r : List V → Hp → VK → Prop} (q : tr σ H fun vs H1 => r vs H1 Q) : tCB r tr σ H Q := q
theorem z_lst (q : tr σ H fun xs H1 => xs.length ≤ sizeLine ∧ ∀ p, H1 p = none → Q (.ref p) (upd H1 p (.lst xs))) : tLst tr σ H Q := q
theorem z_tup (q : tr σ H fun xs H1 => xs.length ≤ sizeLine ∧ ∀ p, H1 p = none → Q (.ref p) (upd H1 p (.tup xs))) : tTup tr σ H Q := q
theorem z_ixL {l : Addr} (h : SqL K H l xs) (e : atI xs i = some v) (q : Q v H) : rIxL K (.ref l) (.int i) H Q := ⟨l, xs, i, v, rfl, rfl, h, e, q⟩
theorem z_ixT {l : Addr} (h : SqT K H l xs) (e : atI xs i = some v) (q : Q v H) : rIxT K (.ref l) (.int i) H Q := ⟨l, xs, i, v, rfl, rfl, h, e, q⟩
theorem z_ixS {c : Nat} (h : z.length ≤ sizeLine) (e : atI z.cps.toList i = some c) (q : Q (.str ⟨#[c]⟩) H) : rIxS (.str z) (.int i) H Q := ⟨z, i, c, rfl, rfl, h, e, q⟩
theorem z_cat {l m : Addr} {ys : List V} (h : H l = some (.lst xs)) (h2 : H m = some (.lst ys)) (hz : xs.length + ys.length ≤ sizeLine) (q : ∀ p, H p = none → Q (.ref p) (upd H p (.lst (xs ++ ys)))) : rCat (.ref l) (.ref m) H Q := ⟨l, m, xs, ys, rfl, rfl, h, h2, hz, q⟩
theorem z_rep {l : Addr} {k : Int} (h : H l = some (.lst xs)) (h1 : -(2 ^ 63) ≤ k) (h2 : k < 2 ^ 63) (hz : xs.length * k.toNat ≤ sizeLine) (q : ∀ p, H p = none → Q (.ref p) (upd H p (.lst (List.replicate k.toNat xs).flatten))) : rRep (.ref l) (.int k) H Q := ⟨l, k, xs, rfl, rfl, h, h1, h2, hz, q⟩
theorem z_inL {l : Addr} {neg : Bool} (h : SqL K H l xs) (hx : flatV x = true) (hs : xs.all flatV = true) (q : Q (.bl (if neg then !inV x xs else inV x xs)) H) : rIn K neg x (.ref l) H Q := ⟨l, xs, rfl, .inl h, hx, hs, q⟩
theorem z_inT {l : Addr} {neg : Bool} (h : SqT K H l xs) (hx : flatV x = true) (hs : xs.all flatV = true) (q : Q (.bl (if neg then !inV x xs else inV x xs)) H) : rIn K neg x (.ref l) H Q := ⟨l, xs, rfl, .inr h, hx, hs, q⟩
theorem z_lenL {l : Addr} (h : SqL K H l xs) (q : Q (.int xs.length) H) : cLenSeq K [.ref l] H Q := ⟨l, xs, rfl, .inl h, q⟩
theorem z_lenT {l : Addr} (h : SqT K H l xs) (q : Q (.int xs.length) H) : cLenSeq K [.ref l] H Q := ⟨l, xs, rfl, .inr h, q⟩
theorem z_lenS (h : z.length ≤ sizeLine) (q : Q (.int z.length) H) : cLenStr [.str z] H Q := ⟨z, rfl, h, q⟩
theorem z_int1 (q : Q (.int i) H) : cInt1 [.int i] H Q := .inl ⟨i, rfl, q⟩
theorem z_intb (q : Q (.int (if b then 1 else 0)) H) : cInt1 [.bl b] H Q := .inr ⟨b, rfl, q⟩
theorem z_max2 (q : Q (.int (if j > i then j else i)) H) : cMax2 [.int i, .int j] H Q := ⟨i, j, rfl, q⟩
theorem z_min2 (q : Q (.int (if j < i then j else i)) H) : cMin2 [.int i, .int j] H Q := ⟨i, j, rfl, q⟩
theorem z_revL (q : te σ H fun x H1 => ∃ a xs, x = .ref a ∧ SqL K H1 a xs ∧ ∀ p, H1 p = none → Q (.ref p) (upd H1 p (.lst xs.reverse))) : tRevL K te σ H Q := q
theorem z_revL1 (h : SqL K H a xs) (q : ∀ p, H p = none → Q (.ref p) (upd H p (.lst xs.reverse))) : ∃ a' xs', V.ref a = .ref a' ∧ SqL K H a' xs' ∧ ∀ p, H p = none → Q (.ref p) (upd H p (.lst xs'.reverse)) := ⟨a, xs, rfl, h, q⟩
theorem z_isi {T U : String} (h : TyX K H x (.type T)) (e : PySem.W.kitOne K (.type T) (.type U) = some b) (q : Q (.bl b) H) : rIsi K [x, .ty U] H Q := ⟨x, _, _, _, b, rfl, .ty U, h, e, q⟩
theorem z_dnew (q : ∀ p, H p = none → Q (.ref p) (upd H p (.dK []))) : tDNewK σ H Q := q
theorem z_isbl {c d : Bool} (q : Q (.bl (decide (c = d))) H) : rIsBl (.bl c) (.bl d) H Q := ⟨c, d, rfl, rfl, q⟩
theorem z_notbl {c d : Bool} (q : Q (.bl (!decide (c = d))) H) : rNotBl (.bl c) (.bl d) H Q := ⟨c, d, rfl, rfl, q⟩
theorem z_mulS {n : Int} (h : MulOk s n) (q : Q (.str (Txt.mul s n)) H) : rMulStr (.str s) (.int n) H Q := ⟨s, n, rfl, rfl, h, q⟩
theorem z_strI (h : i.natAbs.log2 < 1920) (q : Q (.str (toString i)) H) : cStrInt [.int i] H Q := ⟨i, rfl, h, q⟩
theorem z_nopart (q : QO none H) : tNoPart σ H QO := q
theorem z_part (q : te σ H fun x H1 => ∃ i, x = .int i ∧ QO (some i) H1) : tPart te σ H QO := q
theorem z_part1 {R : Int → Prop} (q : R i) : ∃ j, V.int i = .int j ∧ R j := ⟨i, rfl, q⟩
theorem z_sl {r : V → Option Int → Option Int → Hp → VK → Prop} (q : te σ H fun x H1 => tl σ H1 fun l H2 => th σ H2 fun u H3 => r x l u H3 Q) : tSl r te tl th σ H Q := q
theorem z_slL {lo hi : Option Int} (h : SqL K H a xs) (q : ∀ p, H p = none → Q (.ref p) (upd H p (.lst (cutV xs lo hi)))) : rSlL K (.ref a) lo hi H Q := ⟨a, xs, rfl, h, q⟩
theorem z_slS {lo hi : Option Int} (h : z.length ≤ sizeLine) (q : Q (.str (cutS z lo hi)) H) : rSlS (.str z) lo hi H Q := ⟨z, rfl, h, q⟩
theorem z_chain {r r' : R2} (q : ta σ H fun x H1 => tb σ H1 fun y H2 => r x y H2 fun z H3 => ∃ k, z = .bl k ∧ if k = true then tc σ H3 fun w' H4 => r' y w' H4 Q else Q (.bl false) H3) : tChain r r' ta tb tc σ H Q := q

/-! ### truth -/
theorem z_test (q : te σ H fun x H' => ∃ k, x = .bl k ∧ QB k H') : tTest te σ H QB := q
theorem z_tB (q : te σ H fun x H' => ∃ k, x = .bl k ∧ QB k H') : tB te σ H QB := q
theorem z_bl {R : Bool → Prop} (q : R b) : ∃ k, V.bl b = .bl k ∧ R k := ⟨b, rfl, q⟩
theorem z_tru (q : ta σ H fun x H' => ∃ k, TruV K x H' k ∧ QB k H') : tTru K ta σ H QB := q
theorem z_trub {R : Bool → Prop} (q : R b) : ∃ k, TruV K (.bl b) H k ∧ R k := ⟨b, rfl, q⟩
theorem z_trui {R : Bool → Prop} (q : R (i != 0)) : ∃ k, TruV K (.int i) H k ∧ R k := ⟨_, rfl, q⟩
theorem z_trun {R : Bool → Prop} (q : R false) : ∃ k, TruV K .non H k ∧ R k := ⟨_, rfl, q⟩
theorem z_trul {R : Bool → Prop} (h : SqL K H a xs) (q : R (!xs.isEmpty)) : ∃ k, TruV K (.ref a) H k ∧ R k := ⟨_, .inl ⟨xs, h, rfl⟩, q⟩
theorem z_and (q : t σ H fun c H1 => if c = true then u σ H1 QB else QB false H1) : tAnd t u σ H QB := q
theorem z_or (q : t σ H fun c H1 => if c = true then QB true H1 else u σ H1 QB) : tOr t u σ H QB := q
theorem z_not (q : t σ H fun c H1 => QB (!c) H1) : tNot t σ H QB := q
theorem z_yes (q : QB true H) : tYes σ H QB := q
theorem ite_t {A B : Prop} (q : A) : if true = true then A else B := by rw [if_pos rfl]; exact q
theorem ite_f {A B : Prop} (q : B) : if false = true then A else B := by rw [if_neg Bool.false_ne_true]; exact q
theorem ite_b {A B : Prop} (h1 : b = true → A) (h2 : b = false → B) : if b = true then A else B := by
  cases b with
  | true => exact ite_t (h1 rfl)
  | false => exact ite_f (h2 rfl)

/-! ### statements -/
theorem z_seq (q : ts { D with nx := tu D } σ H) : tSeq ts tu D σ H := q
theorem z_cut (Mid : L2.St → Hp → Prop) (h : ts { D with nx := Mid } σ H) (q : ∀ σ' H', Mid σ' H' → tu D σ' H') : Evl.tCut ts tu D σ H := ⟨Mid, h, q⟩
theorem z_next (q : D.nx σ H) : tNext D σ H := q
theorem z_ret (q : te σ H D.rt) : tRet te D σ H := q
theorem z_retN (q : D.rt .non H) : tRetN D σ H := q
theorem z_drop (q : te σ H fun _ H1 => D.nx σ H1) : tDrop te D σ H := q
theorem z_ifs (q : t σ H fun b H1 => if b = true then ts D σ H1 else tu D σ H1) : tIfS t ts tu D σ H := q
theorem z_asg (q : te σ H fun x H1 => g x σ H1 D.nx) : tAsg te g D σ H := q
theorem z_brk (q : D.bk σ H) : tBreak D σ H := q
theorem z_cont (q : D.ct σ H) : tCont D σ H := q
theorem z_gname {n : Nat} {QS : L2.St → Hp → Prop} (q : QS (σ.set n (some v)) H) : gName n v σ H QS := q
theorem z_aug {n : Nat} {f : Int → Int → Int} (h : σ[n]? = some (some (.int i))) (q : te σ H fun y H1 => ipI f (.int i) y H1 fun z H2 => D.nx (σ.set n (some z)) H2) : tAug n te (ipI f) D σ H := ⟨.int i, h, q⟩
theorem z_ipi {f : Int → Int → Int} (q : Q (.int (f i j)) H) : ipI f (.int i) (.int j) H Q := ⟨i, j, rfl, rfl, q⟩
theorem z_gtup2 {m n : Nat} {QS : L2.St → Hp → Prop} (h : SqT K H a [x, y]) (q : QS ((σ.set m (some x)).set n (some y)) H) : gTup K 2 (gCons (gName m) (gCons (gName n) gNil)) (.ref a) σ H QS := ⟨a, _, rfl, h, rfl, x, [y], rfl, y, [], rfl, rfl, q⟩
theorem z_bm {r : V → List V → Hp → VK → Prop} {T : String} (q : te σ H fun x H1 => tyV K T x H1 ∧ tr σ H1 fun xs H2 => r x xs H2 Q) : tBM K T r te tr σ H Q := q
theorem z_bm0 {r : V → List V → Hp → VK → Prop} {T : String} (q : te σ H fun x H1 => tyV K T x H1 ∧ r x [] H1 Q) : tBM0 K T r te σ H Q := q
theorem z_tyl {R : Prop} (h : SqL K H a xs) (q : R) : tyV K "list" (.ref a) H ∧ R := ⟨.inl ⟨rfl, xs, h⟩, q⟩
theorem z_tys {R : Prop} (q : R) : tyV K "str" (.str z) H ∧ R := ⟨rfl, q⟩
theorem z_rapp (h : H a = some (.lst xs)) (hz : xs.length < sizeLine) (q : Q .non (upd H a (.lst (xs ++ [v])))) : rAppend (.ref a) [v] H Q := ⟨a, xs, v, rfl, rfl, h, hz, q⟩
theorem z_rext {c : Addr} {ys : List V} (h : H a = some (.lst xs)) (h2 : H c = some (.lst ys)) (hz : xs.length + ys.length ≤ sizeLine) (q : Q .non (upd H a (.lst (xs ++ ys)))) : rExtend (.ref a) [.ref c] H Q := ⟨a, c, xs, ys, rfl, rfl, h, h2, hz, q⟩
theorem z_rpop (h : H a = some (.lst xs)) (e : xs[xs.length - 1]? = some v) (q : Q v (upd H a (.lst xs.dropLast))) : rPop (.ref a) [] H Q := ⟨a, xs, v, rfl, rfl, h, e, q⟩
end
/-! ### loops -/
def FW (J : It) (g : TG) (tb : TS) (D : Ends) (σ : L2.St) (H1 : Hp) : Prop := ∃ W : Nat → Nat → L2.St → Hp → Prop, (∃ m, W 0 m σ H1) ∧ ∀ i m σ H, W i m σ H →
  (J.stop i H ∧ D.nx σ H) ∨ (J.go i H ∧ ∃ N : L2.St → Hp → Prop, (∀ σ' H', N σ' H' → ∃ m', m' < m ∧ W (i + 1) m' σ' H') ∧ ∀ x H', J.yld i H x H' → g x σ H' fun σ2 H2 => tb { D with nx := N, ct := N, bk := D.nx } σ2 H2)
def FL (K : PySem.W.Frag) (g : TG) (tb : TS) (D : Ends) (σ : L2.St) (x : V) (H1 : Hp) : Prop := ∃ a, x = .ref a ∧ (∃ xs, SqL K H1 a xs) ∧ FW (Itl K a) g tb D σ H1
def FT (K : PySem.W.Frag) (g : TG) (tb : TS) (D : Ends) (σ : L2.St) (x : V) (H1 : Hp) : Prop := ∃ a, x = .ref a ∧ (∃ xs, SqT K H1 a xs) ∧ FW (Itt K a) g tb D σ H1
def FS (g : TG) (tb : TS) (D : Ends) (σ : L2.St) (v : V) (H1 : Hp) : Prop := ∃ x, v = .str x ∧ FW (Its x) g tb D σ H1
def FR1 (g : TG) (tb : TS) (D : Ends) (σ : L2.St) (vs : List V) (H1 : Hp) : Prop := ∃ j : Int, vs = [.int j] ∧ -(2 ^ 62) ≤ j ∧ j < 2 ^ 62 ∧ FW (Itr 0 j.toNat) g tb D σ H1
def FR2 (g : TG) (tb : TS) (D : Ends) (σ : L2.St) (vs : List V) (H1 : Hp) : Prop := ∃ i j : Int, vs = [.int i, .int j] ∧ (-(2 ^ 62) ≤ i ∧ i < 2 ^ 62 ∧ -(2 ^ 62) ≤ j ∧ j < 2 ^ 62) ∧ FW (Itr i (j - i).toNat) g tb D σ H1
def FZ (K : PySem.W.Frag) (g : TG) (tb : TS) (D : Ends) (σ : L2.St) (vs : List V) (H1 : Hp) : Prop := ∃ a b xs ys, vs = [.ref a, .ref b] ∧ SqL K H1 a xs ∧ SqL K H1 b ys ∧ FW (Itz K a b) g tb D σ H1
def FE (K : PySem.W.Frag) (g : TG) (tb : TS) (D : Ends) (σ : L2.St) (vs : List V) (H1 : Hp) : Prop := ∃ a xs, vs = [.ref a] ∧ SqL K H1 a xs ∧ FW (Ite K a) g tb D σ H1
section
variable {K : PySem.W.Frag} {σ : L2.St} {H : Hp} {D : Ends} {g : TG} {tb tu : TS} {te : TE} {ta : TA} {a b : Addr} {xs ys : List V}
theorem z_fl (q : te σ H fun x H1 => FL K g tb D σ x H1) : tFor (iList K te) g tb D σ H := q
theorem z_ft (q : te σ H fun x H1 => FT K g tb D σ x H1) : tFor (iTup K te) g tb D σ H := q
theorem z_fs (q : te σ H fun x H1 => FS g tb D σ x H1) : tFor (iStr te) g tb D σ H := q
theorem z_fr1 (q : ta σ H fun x H1 => FR1 g tb D σ x H1) : tFor (iRng1 ta) g tb D σ H := q
theorem z_fr2 (q : ta σ H fun x H1 => FR2 g tb D σ x H1) : tFor (iRng2 ta) g tb D σ H := q
theorem z_fz (q : ta σ H fun x H1 => FZ K g tb D σ x H1) : tFor (iZip K ta) g tb D σ H := q
theorem z_fe (q : ta σ H fun x H1 => FE K g tb D σ x H1) : tFor (iEnum K ta) g tb D σ H := q
/-- over a list: Pv by the turn, the slots, the heap -/
theorem z_FL (hx : SqL K H a xs) (Pv : Nat → L2.St → Hp → Prop) (h0 : Pv 0 σ H) (hG : ∀ i σ H, i ≤ xs.length → Pv i σ H → SqL K H a xs)
    (hs : ∀ i x σ H, i < xs.length → xs[i]? = some x → Pv i σ H → g x σ H fun σ2 H2 => tb { D with nx := Pv (i + 1), ct := Pv (i + 1), bk := D.nx } σ2 H2) (hd : ∀ σ H, Pv xs.length σ H → D.nx σ H) : FL K g tb D σ (.ref a) H :=
  ⟨a, rfl, ⟨xs, hx⟩, for_it walk_list Pv h0 hG (fun i x σ H H' hi p y => by
    obtain ⟨rfl, e⟩ := y
    exact hs i x σ _ hi e p) hd⟩
theorem z_FT (hx : SqT K H a xs) (Pv : Nat → L2.St → Hp → Prop) (h0 : Pv 0 σ H) (hG : ∀ i σ H, i ≤ xs.length → Pv i σ H → SqT K H a xs)
    (hs : ∀ i x σ H, i < xs.length → xs[i]? = some x → Pv i σ H → g x σ H fun σ2 H2 => tb { D with nx := Pv (i + 1), ct := Pv (i + 1), bk := D.nx } σ2 H2) (hd : ∀ σ H, Pv xs.length σ H → D.nx σ H) : FT K g tb D σ (.ref a) H :=
  ⟨a, rfl, ⟨xs, hx⟩, for_it walk_tup Pv h0 hG (fun i x σ H H' hi p y => by
    obtain ⟨rfl, e⟩ := y
    exact hs i x σ _ hi e p) hd⟩
theorem z_FS {z : Str} (Pv : Nat → L2.St → Hp → Prop) (h0 : Pv 0 σ H)
    (hs : ∀ i (c : Nat) σ H, i < z.cps.size → z.cps[i]? = some c → Pv i σ H → g (.str ⟨#[c]⟩) σ H fun σ2 H2 => tb { D with nx := Pv (i + 1), ct := Pv (i + 1), bk := D.nx } σ2 H2) (hd : ∀ σ H, Pv z.cps.size σ H → D.nx σ H) : FS g tb D σ (.str z) H :=
  ⟨z, rfl, for_it walk_str Pv h0 (fun _ _ _ _ _ => trivial) (fun i x σ H H' hi p y => by
    obtain ⟨rfl, c, e, rfl⟩ := y
    exact hs i c σ _ hi e p) hd⟩
theorem z_FR1 {n : Int} (hn : -(2 ^ 62) ≤ n ∧ n < 2 ^ 62) (Pv : Nat → L2.St → Hp → Prop) (h0 : Pv 0 σ H)
    (hs : ∀ (i : Nat) σ H, i < n.toNat → Pv i σ H → g (.int (i : Int)) σ H fun σ2 H2 => tb { D with nx := Pv (i + 1), ct := Pv (i + 1), bk := D.nx } σ2 H2) (hd : ∀ σ H, Pv n.toNat σ H → D.nx σ H) : FR1 g tb D σ [.int n] H :=
  ⟨n, rfl, hn.1, hn.2, for_it walk_range Pv h0 (fun _ _ _ _ _ => trivial) (fun i x σ H H' hi p y => by
    obtain ⟨rfl, rfl⟩ := y
    show g (.int (0 + (i : Int))) σ H' _
    rw [Int.zero_add]
    exact hs i σ _ hi p) hd⟩
theorem z_FZ {n : Nat} (hn : n = min xs.length ys.length) (hx : SqL K H a xs) (hy : SqL K H b ys) (Pv : Nat → L2.St → Hp → Prop) (h0 : Pv 0 σ H) (hG : ∀ i σ H, i ≤ n → Pv i σ H → SqL K H a xs ∧ SqL K H b ys)
    (hs : ∀ i x y p σ H H', i < n → xs[i]? = some x → ys[i]? = some y → Pv i σ H → Ex H H' → H p = none → H' = upd H p (.tup [x, y]) → g (.ref p) σ H' fun σ2 H2 => tb { D with nx := Pv (i + 1), ct := Pv (i + 1), bk := D.nx } σ2 H2) (hd : ∀ σ H, Pv n σ H → D.nx σ H) : FZ K g tb D σ [.ref a, .ref b] H :=
  ⟨a, b, xs, ys, rfl, hx, hy, for_it (walk_zip hn) Pv h0 hG (fun i x σ H H' hi p y => by
    obtain ⟨T, u, v, rfl, e1, rfl, e3, e4⟩ := y
    exact hs i u v T σ _ _ hi e3 e4 p (Ex.new e1) e1 rfl) hd⟩
theorem z_FE (hx : SqL K H a xs) (Pv : Nat → L2.St → Hp → Prop) (h0 : Pv 0 σ H) (hG : ∀ i σ H, i ≤ xs.length → Pv i σ H → SqL K H a xs)
    (hs : ∀ i x p σ H H', i < xs.length → xs[i]? = some x → Pv i σ H → Ex H H' → H p = none → H' = upd H p (.tup [.int (i : Nat), x]) → g (.ref p) σ H' fun σ2 H2 => tb { D with nx := Pv (i + 1), ct := Pv (i + 1), bk := D.nx } σ2 H2) (hd : ∀ σ H, Pv xs.length σ H → D.nx σ H) : FE K g tb D σ [.ref a] H :=
  ⟨a, xs, rfl, hx, for_it walk_enum Pv h0 hG (fun i x σ H H' hi p y => by
    obtain ⟨T, u, v, rfl, e1, rfl, e3, e4⟩ := y
    cases e3
    exact hs i v T σ _ _ hi e4 p (Ex.new e1) e1 rfl) hd⟩
theorem z_while {tc : TT} (W : Nat → L2.St → Hp → Prop) (m : Nat) (h0 : W m σ H) (hs : ∀ m σ H, W m σ H → tc σ H fun b H1 => if b = true then ∃ N : L2.St → Hp → Prop, (∀ σ' H', N σ' H' → ∃ m', m' < m ∧ W m' σ' H') ∧ tb { D with nx := N, ct := N, bk := D.nx } σ H1 else D.nx σ H1) : tWhile tc tb D σ H := ⟨W, ⟨m, h0⟩, hs⟩
end
/-! ### comprehensions -/
def CW (J : It) (g : TG) (tt : TT) (te : TE) (vs : List Nat) (σ : L2.St) (H1 : Hp) (Q : VK) : Prop := ∀ D, H1 D = none → ∃ W : Nat → Nat → Hp → Prop, (∃ m, W 0 m (upd H1 D (.lst []))) ∧ ∀ i m H, W i m H →
  (J.stop i H ∧ Q (.ref D) H) ∨ (J.go i H ∧ ∃ Nx : Hp → Prop, (∀ H', Nx H' → ∃ m', m' < m ∧ W (i + 1) m' H') ∧ ∀ x H', J.yld i H x H' → g x (wipe σ vs) H' fun σ2 H2 => wipe σ2 vs = wipe σ vs ∧ tt σ2 H2 fun b H3 =>
    if b = true then te σ2 H3 fun y H4 => ∃ acc, H4 D = some (.lst acc) ∧ acc.length < sizeLine ∧ Nx (upd H4 D (.lst (acc ++ [y]))) else Nx H3)
def CL (K : PySem.W.Frag) (g : TG) (tt : TT) (te : TE) (vs : List Nat) (σ : L2.St) (x : V) (H1 : Hp) (Q : VK) : Prop := ∃ a, x = .ref a ∧ (∃ xs, SqL K H1 a xs) ∧ CW (Itl K a) g tt te vs σ H1 Q
def CS (g : TG) (tt : TT) (te : TE) (vs : List Nat) (σ : L2.St) (x : V) (H1 : Hp) (Q : VK) : Prop := ∃ z, x = .str z ∧ CW (Its z) g tt te vs σ H1 Q
def CR1 (g : TG) (tt : TT) (te : TE) (vs : List Nat) (σ : L2.St) (xs : List V) (H1 : Hp) (Q : VK) : Prop := ∃ j : Int, xs = [.int j] ∧ -(2 ^ 62) ≤ j ∧ j < 2 ^ 62 ∧ CW (Itr 0 j.toNat) g tt te vs σ H1 Q
def CRv (g : TG) (tt : TT) (te : TE) (vs : List Nat) (σ : L2.St) (x : V) (H1 : Hp) (Q : VK) : Prop := ∃ n : Int, x = .int n ∧ (-(2 ^ 62) ≤ (0 : Int) ∧ (0 : Int) < 2 ^ 62 ∧ -(2 ^ 62) ≤ n ∧ n < 2 ^ 62 ∧ CW (Itc (0 + (((n - 0).toNat : Nat) : Int) - 1) (-1) (n - 0).toNat) g tt te vs σ H1 Q)
section
variable {K : PySem.W.Frag} {σ : L2.St} {H : Hp} {Q : VK} {g : TG} {tt : TT} {te tl : TE} {ta : TA} {vs : List Nat} {a : Addr} {xs : List V} {J : It} {n j : Nat} {G : Hp → Prop}
theorem z_cl (q : tl σ H fun x H1 => CL K g tt te vs σ x H1 Q) : tLc (iList K tl) g tt te vs σ H Q := q
theorem z_cs (q : tl σ H fun x H1 => CS g tt te vs σ x H1 Q) : tLc (iStr tl) g tt te vs σ H Q := q
theorem z_cr1 (q : ta σ H fun x H1 => CR1 g tt te vs σ x H1 Q) : tLc (iRng1 ta) g tt te vs σ H Q := q
theorem z_crv (q : tl σ H fun x H1 => CRv g tt te vs σ x H1 Q) : tLc (iRevR (tRg1 tl)) g tt te vs σ H Q := q
/-- things without objects of their own -/
theorem z_CW {X : Nat → V} (w : Walk J n G (fun i H x H' => H' = H ∧ x = X i)) (hn : n ≤ 40000) (hG : ∀ H', Ex H H' → G H') (f : Nat → Bool) (v : Nat → V) (hw : ∀ x, wipe ((wipe σ vs).set j (some x)) vs = wipe σ vs)
    (ht : ∀ i H', i < n → Ex H H' → Evl.EvT tt ((wipe σ vs).set j (some (X i))) H' (f i)) (he : ∀ i H', i < n → Ex H H' → f i = true → Evl.Ev te ((wipe σ vs).set j (some (X i))) H' (v i))
    (q : ∀ p H2, H p = none → Ex H H2 → H2 p = some (.lst (Evl.given n f v)) → Q (.ref p) H2) : CW J (gName j) tt te vs σ H Q := fun Dl hD =>
  lc_it w (Evl.Cw H f v Dl) ⟨hD, Ex.new hD, upd_same⟩ (fun _ _ _ p => hG _ p.2.1) (fun i x H1 H2 hi p y => by
    obtain ⟨rfl, rfl⟩ := y
    exact ⟨hw _, Evl.cw_turn p (by omega) (ht i H hi (Ex.refl H)) (fun hf => he i H hi (Ex.refl H) hf)⟩) (fun H' p => q Dl H' p.1 p.2.1 p.2.2)
theorem z_CL (hx : SqL K H a xs) (hz : xs.length ≤ 40000) (f : Nat → Bool) (v : Nat → V) (hw : ∀ x, wipe ((wipe σ vs).set j (some x)) vs = wipe σ vs)
    (ht : ∀ i x H', i < xs.length → xs[i]? = some x → Ex H H' → Evl.EvT tt ((wipe σ vs).set j (some x)) H' (f i)) (he : ∀ i x H', i < xs.length → xs[i]? = some x → Ex H H' → f i = true → Evl.Ev te ((wipe σ vs).set j (some x)) H' (v i))
    (q : ∀ p H2, H p = none → Ex H H2 → H2 p = some (.lst (Evl.given xs.length f v)) → Q (.ref p) H2) : CL K (gName j) tt te vs σ (.ref a) H Q :=
  ⟨a, rfl, ⟨xs, hx⟩, z_CW (X := fun i => xs.getD i .non) (walk_list.mono (fun _ h => h) (fun i H x H' _ _ y => ⟨y.1, by rw [List.getD_eq_getElem?_getD, y.2] <;> rfl⟩)) hz (fun _ e => ex_l e hx) f v hw
    (fun i H' hi e => ht i _ H' hi (by rw [List.getD_eq_getElem?_getD, List.getElem?_eq_getElem hi] <;> rfl) e) (fun i H' hi e hf => he i _ H' hi (by rw [List.getD_eq_getElem?_getD, List.getElem?_eq_getElem hi] <;> rfl) e hf) q⟩
theorem z_CR1 {m : Int} (hn : 0 ≤ m ∧ m ≤ 40000) (f : Nat → Bool) (v : Nat → V) (hw : ∀ x, wipe ((wipe σ vs).set j (some x)) vs = wipe σ vs)
    (ht : ∀ (i : Nat) H', i < m.toNat → Ex H H' → Evl.EvT tt ((wipe σ vs).set j (some (.int (i : Int)))) H' (f i)) (he : ∀ (i : Nat) H', i < m.toNat → Ex H H' → f i = true → Evl.Ev te ((wipe σ vs).set j (some (.int (i : Int)))) H' (v i))
    (q : ∀ p H2, H p = none → Ex H H2 → H2 p = some (.lst (Evl.given m.toNat f v)) → Q (.ref p) H2) : CR1 (gName j) tt te vs σ [.int m] H Q :=
  ⟨m, rfl, by omega, by omega, z_CW (X := fun i => .int (i : Int)) (walk_range.mono (fun _ h => h) (fun i H x H' _ _ y => ⟨y.1, by rw [y.2]; show V.int (0 + (i : Int)) = _; rw [Int.zero_add]⟩)) (by omega) (fun _ _ => trivial) f v hw ht he q⟩
theorem z_CRv {m : Nat} (hn : m ≤ 40000) (f : Nat → Bool) (v : Nat → V) (hw : ∀ x, wipe ((wipe σ vs).set j (some x)) vs = wipe σ vs)
    (ht : ∀ (i : Nat) H', i < m → Ex H H' → Evl.EvT tt ((wipe σ vs).set j (some (.int ((m - 1 - i : Nat) : Int)))) H' (f i)) (he : ∀ (i : Nat) H', i < m → Ex H H' → f i = true → Evl.Ev te ((wipe σ vs).set j (some (.int ((m - 1 - i : Nat) : Int)))) H' (v i))
    (q : ∀ p H2, H p = none → Ex H H2 → H2 p = some (.lst (Evl.given m f v)) → Q (.ref p) H2) : CRv (gName j) tt te vs σ (.int (m : Int)) H Q := by
  refine ⟨m, rfl, by decide, by decide, by omega, by omega, ?_⟩
  have e : ((m : Int) - 0).toNat = m := by omega
  rw [e]
  exact z_CW (X := fun i => .int ((m - 1 - i : Nat) : Int)) (walk_rangeC.mono (fun _ h => h) (fun i H x H' hi _ y => ⟨y.1, by
    rw [y.2]
    show V.int (0 + (m : Int) - 1 + (i : Int) * -1) = _
    congr 1
    omega⟩)) hn (fun _ _ => trivial) f v hw ht he q
theorem z_CS {z : Str} (hz : z.cps.size ≤ 40000) (f : Nat → Bool) (v : Nat → V) (hw : ∀ x, wipe ((wipe σ vs).set j (some x)) vs = wipe σ vs)
    (ht : ∀ i (c : Nat) H', i < z.cps.size → z.cps[i]? = some c → Ex H H' → Evl.EvT tt ((wipe σ vs).set j (some (.str ⟨#[c]⟩))) H' (f i)) (he : ∀ i (c : Nat) H', i < z.cps.size → z.cps[i]? = some c → Ex H H' → f i = true → Evl.Ev te ((wipe σ vs).set j (some (.str ⟨#[c]⟩))) H' (v i))
    (q : ∀ p H2, H p = none → Ex H H2 → H2 p = some (.lst (Evl.given z.cps.size f v)) → Q (.ref p) H2) : CS (gName j) tt te vs σ (.str z) H Q :=
  ⟨z, rfl, z_CW (X := fun i => .str ⟨#[z.cps.getD i 0]⟩) (walk_str.mono (fun _ h => h) (fun i H x H' _ _ y => by
      obtain ⟨e, c, e2, e3⟩ := y
      refine ⟨e, ?_⟩
      rw [e3]; congr 2; simp [Array.getD_eq_getD_getElem?, e2])) hz (fun _ _ => trivial) f v hw
    (fun i H' hi e => ht i _ H' hi (by simp [hi]) e) (fun i H' hi e hf => he i _ H' hi (by simp [hi]) e hf) q⟩
end
end Z
/-! ### data without truths: == is = -/
namespace Z
open PySem PySem.Spec PyProof.Rows L2
mutual
def cl : PyData → Bool
  | .none => true
  | .int _ => true
  | .str x => PyData.canLay0 (.str x)
  | .list xs => clAll xs
  | .tuple xs => clAll xs
  | .bool _ => false
  | .dict _ => false
def clAll : List PyData → Bool
  | [] => true
  | x :: xs => cl x && clAll xs
end
mutual
theorem cl_lay : ∀ d, cl d = true → d.canLay0 = true
  | .none, _ => rfl
  | .int _, _ => rfl
  | .str _, h => h
  | .list xs, h => clAll_lay xs h
  | .tuple xs, h => clAll_lay xs h
  | .bool _, h => by cases h
  | .dict _, h => by cases h
theorem clAll_lay : ∀ xs, clAll xs = true → PyData.canLayAll0 xs = true
  | [], _ => rfl
  | x :: xs, h => by
    have h' := Bool.and_eq_true_iff.mp (show (cl x && clAll xs) = true from h)
    show (x.canLay0 && PyData.canLayAll0 xs) = true
    rw [cl_lay x h'.1, clAll_lay xs h'.2] <;> rfl
end
mutual
theorem eqv_cl : ∀ d e : PyData, cl d = true → cl e = true → PyData.eqv d e = true → d = e
  | .none, e, _, he, h => by cases e <;> first | rfl | cases h
  | .int i, e, _, he, h => by
    cases e with
    | int j => rw [eq_of_beq (show (i == j) = true from h)]
    | bool _ => cases he
    | _ => cases h
  | .str x, e, _, he, h => by
    cases e with
    | str y => rw [eq_of_beq (show (x == y) = true from h)]
    | _ => cases h
  | .list xs, e, hd, he, h => by
    cases e with
    | list ys => rw [eqvAll_cl xs ys hd he h]
    | _ => cases h
  | .tuple xs, e, hd, he, h => by
    cases e with
    | tuple ys => rw [eqvAll_cl xs ys hd he h]
    | _ => cases h
  | .bool _, _, hd, _, _ => by cases hd
  | .dict _, _, hd, _, _ => by cases hd
theorem eqvAll_cl : ∀ xs ys : List PyData, clAll xs = true → clAll ys = true → PyData.eqvAll xs ys = true → xs = ys
  | [], [], _, _, _ => rfl
  | [], _ :: _, _, _, h => by cases h
  | _ :: _, [], _, _, h => by cases h
  | x :: xs, y :: ys, hd, he, h => by
    have h1 := Bool.and_eq_true_iff.mp (show (cl x && clAll xs) = true from hd)
    have h2 := Bool.and_eq_true_iff.mp (show (cl y && clAll ys) = true from he)
    have h3 := Bool.and_eq_true_iff.mp (show (PyData.eqv x y && PyData.eqvAll xs ys) = true from h)
    rw [eqv_cl x y h1.1 h2.1 h3.1, eqvAll_cl xs ys h1.2 h2.2 h3.2]
end
theorem eqv_iff {d e : PyData} (hd : cl d = true) (he : cl e = true) : PyData.eqv d e = true ↔ d = e :=
  ⟨eqv_cl d e hd he, fun h => by
    rw [h]
    exact SeqAt.eqv_refl e (cl_lay e he)⟩
theorem shaped_cl {d : PyData} (hd : cl d = true) (h : d.depth ≤ 64) : SeqAt.shaped d = true := Bool.and_eq_true_iff.mpr ⟨cl_lay d hd, decide_eq_true h⟩
section
variable {K : PySem.W.Frag} {H : Hp} {Q : VK} {x y : V} {d e : PyData}
/-- == over such data -/
theorem z_eqD {b : Bool} (hx : Dp K H x d) (hy : Dp K H y e) (cd : cl d = true) (ce : cl e = true) (dd : d.depth ≤ 64) (de : e.depth ≤ 64) (hb : b = true ↔ d = e) (q : Q (.bl b) H) : rEqD K x y H Q := by
  refine ⟨d, e, hx, hy, shaped_cl cd dd, shaped_cl ce de, ?_⟩
  have e2 : PyData.eqv d e = b := by
    have h := eqv_iff cd ce
    cases hb2 : PyData.eqv d e with
    | true => exact (hb.mpr (h.mp hb2)).symm
    | false =>
      cases b with
      | false => rfl
      | true => exact absurd (h.mpr (hb.mp rfl)) (by rw [hb2]; decide)
  rw [e2]
  exact q
theorem z_neD {b : Bool} (hx : Dp K H x d) (hy : Dp K H y e) (cd : cl d = true) (ce : cl e = true) (dd : d.depth ≤ 64) (de : e.depth ≤ 64) (hb : b = true ↔ d = e) (q : Q (.bl (!b)) H) : rNeD K x y H Q := by
  refine ⟨d, e, hx, hy, shaped_cl cd dd, shaped_cl ce de, ?_⟩
  have e2 : PyData.eqv d e = b := by
    have h := eqv_iff cd ce
    cases hb2 : PyData.eqv d e with
    | true => exact (hb.mpr (h.mp hb2)).symm
    | false =>
      cases b with
      | false => rfl
      | true => exact absurd (h.mpr (hb.mp rfl)) (by rw [hb2]; decide)
  rw [e2]
  exact q
theorem dp_ints : ∀ l : List Int, DpAll K H (l.map V.int) (l.map PyData.int)
  | [] => .nil
  | i :: l => .cons (.int i) (dp_ints l)
theorem cl_ints : ∀ l : List Int, clAll (l.map PyData.int) = true
  | [] => rfl
  | _ :: l => cl_ints l
theorem depth_ints : ∀ l : List Int, PyData.depthAll (l.map PyData.int) = 0
  | [] => rfl
  | i :: l => by
    show max 0 (PyData.depthAll (l.map PyData.int)) = 0
    rw [depth_ints l] <;> rfl
theorem ints_inj {l m : List Int} (h : l.map PyData.int = m.map PyData.int) : l = m := by
  have e := congrArg (List.map fun d => match d with
    | PyData.int i => i
    | _ => 0) h
  rw [List.map_map, List.map_map] at e
  have f : ∀ l : List Int, List.map ((fun d => match d with
    | PyData.int i => i
    | _ => 0) ∘ PyData.int) l = l := fun l => by
    induction l with
    | nil => rfl
    | cons a l ih => rw [List.map_cons, ih] <;> rfl
  rw [f, f] at e
  exact e
theorem z_eqL {a c : Addr} {l m : List Int} {b : Bool} (hx : SqL K H a (l.map V.int)) (hy : SqL K H c (m.map V.int)) (hb : b = true ↔ l = m) (q : Q (.bl b) H) : rEqD K (.ref a) (.ref c) H Q :=
  z_eqD (.lst hx (dp_ints l)) (.lst hy (dp_ints m)) (cl_ints l) (cl_ints m) (by show PyData.depthAll _ + 1 ≤ 64; rw [depth_ints]; decide) (by show PyData.depthAll _ + 1 ≤ 64; rw [depth_ints]; decide)
    (hb.trans ⟨fun h => by rw [h], fun h => ints_inj (by injection h)⟩) q
end
end Z
/-! ### texts as lists of signs -/
namespace Z
open PySem PySem.Spec PyProof.Rows L2
open Evl (Ex ex_l ex_t ex_rd sq_of st_of fresh_back)
def S (l : List Nat) : Str := ⟨l.toArray⟩
theorem S_len (l : List Nat) : (S l).length = l.length := by
  show l.toArray.size = _
  simp
theorem S_size (l : List Nat) : (S l).cps.size = l.length := S_len l
theorem S_tl (l : List Nat) : (S l).cps.toList = l := by
  show l.toArray.toList = l
  simp
theorem S_of (s : Str) : s = S s.cps.toList := by
  cases s with
  | mk a => simp [S]
theorem S_app (l m : List Nat) : S l ++ S m = S (l ++ m) := by
  show (⟨l.toArray ++ m.toArray⟩ : Str) = ⟨(l ++ m).toArray⟩
  simp
theorem S_inj {l m : List Nat} (h : S l = S m) : l = m := by rw [← S_tl l, h, S_tl]
theorem S_iff {l m : List Nat} : S l = S m ↔ l = m := ⟨S_inj, fun h => by rw [h]⟩
theorem S_get (l : List Nat) (i : Nat) : (S l).cps[i]? = l[i]? := by
  show l.toArray[i]? = _
  simp
/-- a slice by places -/
def cutL (l : List Nat) (lo hi : Option Int) : List Nat := (l.drop (HT.sIx l.length 0 lo)).take (HT.sIx l.length l.length hi - HT.sIx l.length 0 lo)
theorem S_cut (l : List Nat) (lo hi : Option Int) : cutS (S l) lo hi = S (cutL l lo hi) := by
  show (⟨(((S l).cps.toList.drop (HT.sIx (S l).length 0 lo)).take (HT.sIx (S l).length (S l).length hi - HT.sIx (S l).length 0 lo)).toArray⟩ : Str) = _
  rw [S_tl, S_len] <;> rfl
theorem cutL_to (l : List Nat) (n : Nat) : cutL l none (some (n : Int)) = l.take n := by
  unfold cutL
  rw [HT.sIx_none, HT.sIx_nat, List.drop_zero, Nat.sub_zero]
  by_cases h : n ≤ l.length
  · rw [Nat.min_eq_left h]
  · rw [Nat.min_eq_right (by omega), List.take_length, List.take_of_length_le (by omega)]
theorem cutL_from (l : List Nat) (n : Nat) : cutL l (some (n : Int)) none = l.drop n := by
  unfold cutL
  rw [HT.sIx_none, HT.sIx_nat]
  by_cases h : n ≤ l.length
  · rw [Nat.min_eq_left h, List.take_of_length_le (by rw [List.length_drop]; omega)]
  · rw [Nat.min_eq_right (by omega), List.drop_eq_nil_of_le (Nat.le_refl _), List.drop_eq_nil_of_le (by omega), List.take_nil]
theorem cutL_mid (l : List Nat) (m n : Nat) : cutL l (some (m : Int)) (some (n : Int)) = (l.drop m).take (n - m) := by
  unfold cutL
  rw [HT.sIx_nat, HT.sIx_nat]
  by_cases h : m ≤ l.length
  · rw [Nat.min_eq_left h]
    by_cases h2 : n ≤ l.length
    · rw [Nat.min_eq_left h2]
    · rw [Nat.min_eq_right (by omega), List.take_of_length_le (by rw [List.length_drop]; omega), List.take_of_length_le (by rw [List.length_drop]; omega)]
  · rw [List.drop_eq_nil_of_le (by omega), List.drop_eq_nil_of_le (by omega), List.take_nil, List.take_nil]
theorem cutS_le (s : Str) (lo hi : Option Int) : (cutS s lo hi).length ≤ s.length := cutS_length s lo hi
theorem join_S (ls : List (List Nat)) : Txt.join (S []) (ls.map S) = S ls.flatten := by
  rw [TL.join_eq, S_of (Str.join _ _)]
  congr 1
  show TL.tl (Str.join (S []) (ls.map S)) = _
  rw [TL.tl_join]
  have e : TL.tl (S []) = [] := rfl
  have f : ∀ ls : List (List Nat), (ls.map S).map TL.tl = ls := fun ls => by
    rw [List.map_map]
    refine (List.map_congr_left (g := id) fun l _ => S_tl l).trans (List.map_id _)
  rw [e, f]
  have g : ∀ ls : List (List Nat), TL.joinL [] ls = ls.flatten := fun ls => by
    induction ls with
    | nil => rfl
    | cons a r ih =>
      cases r with
      | nil => simp [TL.joinL]
      | cons b r => simp [TL.joinL, ih] at *
  exact g ls
theorem txt_app_len (s z : Str) : (s ++ z).length = s.length + z.length := by
  show (s.cps ++ z.cps).size = _
  rw [Array.size_append] <;> rfl
theorem mul_len (s : Str) (n : Int) (hn : 0 ≤ n) : (Txt.mul s n).length ≤ s.length * n.toNat := by
  unfold Txt.mul
  by_cases h : n < 1
  · rw [if_pos h]
    exact Nat.zero_le _
  · rw [if_neg h]
    by_cases h2 : (n == 1 || s.length == 0) = true
    · rw [if_pos h2]
      exact Nat.le_mul_of_pos_right _ (by omega)
    · rw [if_neg h2]
      show ((List.replicate n.toNat s.cps).foldl (· ++ ·) #[]).size ≤ _
      have g : ∀ (k : Nat) (a : Array Nat), ((List.replicate k s.cps).foldl (· ++ ·) a).size = a.size + s.length * k := fun k => by
        induction k with
        | zero => intro a; simp
        | succ k ih =>
          intro a
          rw [List.replicate_succ, List.foldl_cons, ih, Array.size_append, Nat.mul_succ]
          show a.size + s.cps.size + s.length * k = a.size + (s.length * k + s.cps.size)
          omega
      rw [g]
      simp
theorem mul_ok (s : Str) (n : Int) (h0 : 0 ≤ n) (hn : n ≤ 1000) (hs : s.length ≤ 1000) : MulOk s n := by
  refine ⟨by rw [decide_eq_false (by omega), decide_eq_false (by omega)] <;> rfl, fun h _ => ?_, fun h _ => ?_⟩
  · have : (2 ^ 63 - 1) / 1000 ≤ (2 ^ 63 - 1 : Int) / n := by
      rw [Int.le_ediv_iff_mul_le (by omega)]
      have : (2 ^ 63 - 1 : Int) / 1000 * n ≤ (2 ^ 63 - 1) / 1000 * 1000 := Int.mul_le_mul_of_nonneg_left hn (by decide)
      exact Int.le_trans this (by decide)
    have e : ((2 ^ 63 - 1 : Int)) / 1000 = 9223372036854775 := by decide
    omega
  · have : s.length * n.toNat ≤ 1000 * 1000 := Nat.mul_le_mul hs (by omega)
    show decide (s.length * n.toNat > sizeLine) = false
    exact decide_eq_false (by rw [sizeLine_eq]; omega)
end Z
/-! ### a head's facts and one test more -/
namespace Z
open PySem PySem.Spec PyProof.Rows L2 He
def lookZ (fa : List Fa) (fn : List DefD) (ex : PySem.W.Frag → Bool) (n : Nat) (g : Addr → Option Obj) : AlD × Bool :=
  (obsD fa fn (frG g (asD g n)), ex (frG g (asD g n)))
def hookZ (fa : List Fa) (fn : List DefD) (ex : PySem.W.Frag → Bool) (n : Nat) : PySem.W.Hook where
  α := AlD × Bool
  obs := fun st => lookZ fa fn ex n st.heap.get?
  val := fun _ => (valD fn, true)
  says := fun _ hp => ∃ F : PySem.W.Frag, F.In hp ∧ SaysD fa fn F ∧ ex F = true
  of := fun _ _ eq => ⟨_, frG_in, congrArg Prod.fst eq, congrArg Prod.snd eq⟩
  keeps := fun _ _ _ ⟨F, hF, cF, xF⟩ kp => ⟨F, PySem.W.Frag.In.keeps hF kp, cF, xF⟩
theorem lookZ_eq {fa : List Fa} {fn : List DefD} {ex : PySem.W.Frag → Bool} {n : Nat} {g : Addr → Option Obj} {st : Shared} (hg : ∀ a, g a = st.heap.get? a) : lookZ fa fn ex n g = (hookZ fa fn ex n).obs st := by
  have e : g = st.heap.get? := funext hg
  subst e
  rfl
end Z
/-! ### data, an elder heap's -/
namespace Z
open PySem PySem.Spec PyProof.Rows L2
open Evl (Ex ex_l ex_t ex_rd sq_of st_of fresh_back)
mutual
theorem dp_mono {K : PySem.W.Frag} {H H' : Hp} (e : Ex H H') : ∀ {v : V} {d : PyData}, Dp K H v d → Dp K H' v d
  | _, _, .non => .non
  | _, _, .bl b => .bl b
  | _, _, .int i => .int i
  | _, _, .str x => .str x
  | _, _, .lst s a => .lst (ex_l e s) (dpAll_mono e a)
  | _, _, .tup s a => .tup (ex_t e s) (dpAll_mono e a)
theorem dpAll_mono {K : PySem.W.Frag} {H H' : Hp} (e : Ex H H') : ∀ {vs : List V} {ds : List PyData}, DpAll K H vs ds → DpAll K H' vs ds
  | _, _, .nil => .nil
  | _, _, .cons a r => .cons (dp_mono e a) (dpAll_mono e r)
end
theorem dpAll_app {K : PySem.W.Frag} {H : Hp} : ∀ {vs us : List V} {ds es : List PyData}, DpAll K H vs ds → DpAll K H us es → DpAll K H (vs ++ us) (ds ++ es)
  | _, _, _, _, .nil, b => b
  | _, _, _, _, .cons a r, b => .cons a (dpAll_app r b)
theorem dpAll_len {K : PySem.W.Frag} {H : Hp} : ∀ {vs : List V} {ds : List PyData}, DpAll K H vs ds → vs.length = ds.length
  | _, _, .nil => rfl
  | _, _, .cons _ r => by rw [List.length_cons, List.length_cons, dpAll_len r]
theorem dpAll_get {K : PySem.W.Frag} {H : Hp} : ∀ {vs : List V} {ds : List PyData} {i : Nat} {v : V}, DpAll K H vs ds → vs[i]? = some v → ∃ d, ds[i]? = some d ∧ Dp K H v d
  | _, _, _, _, .nil, h => by simp at h
  | _, _, 0, _, .cons a _, h => by
    cases h
    exact ⟨_, rfl, a⟩
  | _, _, i + 1, _, .cons _ r, h => dpAll_get (i := i) r h
theorem ty_tup {K : PySem.W.Frag} {H : Hp} {a : Addr} {xs : List V} (h : SqT K H a xs) : TyX K H (.ref a) (.type "tuple") := by
  rcases h with (h | ⟨o, h⟩) | ⟨o, its, n, h, hc, _⟩
  · exact .base (.tup h)
  · exact .fTuple h
  · exact .kTuple h hc
theorem ty_lst {K : PySem.W.Frag} {H : Hp} {a : Addr} {xs : List V} (h : SqL K H a xs) : TyX K H (.ref a) (.type "list") := by
  rcases h with (h | ⟨o, h⟩) | ⟨o, its, n, h, hc, _⟩
  · exact .base (.lst h)
  · exact .base (.frz h)
  · exact .kList h hc
/-- a new thing that bears data: I, what was known, grows to J -/
def RetD (K : PySem.W.Frag) (d : PyData) (I H : Hp) (Q : VK) : Prop :=
  ∀ v J H', Ex I J → Ex H H' → Ex J H' → (∀ a o, H a = some o → I a = none → J a = none) → Dp K J v d → Q v H'
/-- a new list of such things -/
def RetLD (K : PySem.W.Frag) (ds : List PyData) (H : Hp) (Q : VK) : Prop :=
  ∀ p xs H', H p = none → Ex H H' → H' p = some (.lst xs) → DpAll K H' xs ds → Q (.ref p) H'
/-- a new tuple over what is known -/
theorem RetD.tup {K : PySem.W.Frag} {ds : List PyData} {I H : Hp} {Q : VK} {p : Addr} {xs : List V} (q : RetD K (.tuple ds) I H Q) (e : Ex I H) (hp : H p = none) (h : DpAll K I xs ds) : Q (.ref p) (upd H p (.tup xs)) := by
  have ip : I p = none := fresh_back e hp
  refine q (.ref p) (upd I p (.tup xs)) _ (Ex.new ip) (Ex.new hp) (fun b o hb => ?_) (fun a o ha hI => ?_) (.tup (st_of upd_same) (dpAll_mono (Ex.new ip) h))
  · by_cases hbp : b = p
    · subst hbp
      rw [upd_same] at hb ⊢
      exact hb
    · rw [upd_ne hbp] at hb ⊢
      exact e b o hb
  · have ne : a ≠ p := fun z => by
      rw [z, hp] at ha
      cases ha
    rw [upd_ne ne]
    exact hI
end Z

set_option linter.all false
set_option maxHeartbeats 1000000
namespace M03
def isL (c : Nat) : Bool := decide (97 ≤ c) && decide (c ≤ 122)
def isF (c : Nat) : Bool := decide (48 ≤ c) && decide (c ≤ 57)
def isNS (c : Nat) : Bool := isL c || isF c
def toldL : List (List Nat) := [[112, 97, 114, 116], [105, 110], [111, 117, 116], [119, 105, 114, 101], [114, 101, 115, 116], [108, 101, 116], [117, 115, 101], [116, 97, 98, 108, 101], [109, 101, 109, 111, 114, 121], [105, 102], [116, 104, 101, 110], [101, 108, 115, 101], [99, 117, 116], [106, 111, 105, 110], [102, 105, 108, 108]]
def marks1 : List Nat := [58, 44, 46, 61, 60, 38, 124, 94, 43, 45, 126, 40, 41, 91, 93]
def marksL : List (List Nat) := [[58], [44], [46], [61], [61, 61], [60], [38], [124], [94], [43], [45], [126], [40], [41], [91], [93]]
inductive Wd where
  | told (l : List Nat) | mark (l : List Nat) | name (l : List Nat) | num (l : List Nat)
  deriving DecidableEq
def badNum (a : List Nat) : Prop := a.length > 20 ∨ (a.head? = some 48 ∧ a ≠ [48])
instance (a : List Nat) : Decidable (badNum a) := inferInstanceAs (Decidable (_ ∨ _))
def runW (a : List Nat) : Option Wd :=
  if a ∈ toldL then some (.told a)
  else if a.all isF = true then (if badNum a then none else some (.num a))
  else if isF (a.headD 0) = true ∨ a.length > 8 then none else some (.name a)
inductive Step where
  | stop | bad | skip (r : List Nat) | word (w : Wd) (r : List Nat)
def step : List Nat → Step
  | [] => .stop
  | c :: r =>
    if c = 35 then .stop else if c = 32 then .skip r
    else if (c :: r).takeWhile isNS ≠ [] then (match runW ((c :: r).takeWhile isNS) with
      | none => .bad
      | some w => .word w ((c :: r).drop ((c :: r).takeWhile isNS).length))
    else if c = 61 ∧ r.head? = some 61 then .word (.mark [61, 61]) (r.drop 1)
    else if c ∈ marks1 then .word (.mark [c]) r else .bad
theorem step_less : ∀ l r, (step l = .skip r ∨ ∃ w, step l = .word w r) → r.length < l.length
  | [], r, h => by rcases h with h | ⟨w, h⟩ <;> cases h
  | c :: t, r, h => by
    rw [step] at h
    by_cases h1 : c = 35
    · rw [if_pos h1] at h
      rcases h with h | ⟨w, h⟩ <;> cases h
    rw [if_neg h1] at h
    by_cases h2 : c = 32
    · rw [if_pos h2] at h
      rcases h with h | ⟨w, h⟩ <;> cases h
      simp
    rw [if_neg h2] at h
    by_cases h3 : (c :: t).takeWhile isNS ≠ []
    · rw [if_pos h3] at h
      have hl : 0 < ((c :: t).takeWhile isNS).length := List.length_pos_iff.mpr h3
      cases hw : runW ((c :: t).takeWhile isNS) with
      | none =>
        rw [hw] at h
        rcases h with h | ⟨w, h⟩ <;> cases h
      | some w =>
        rw [hw] at h
        rcases h with h | ⟨w', h⟩ <;> cases h
        rw [List.length_drop, List.length_cons]
        omega
    rw [if_neg h3] at h
    by_cases h4 : c = 61 ∧ t.head? = some 61
    · rw [if_pos h4] at h
      rcases h with h | ⟨w', h⟩ <;> cases h
      rw [List.length_drop, List.length_cons]
      omega
    rw [if_neg h4] at h
    by_cases h5 : c ∈ marks1
    · rw [if_pos h5] at h
      rcases h with h | ⟨w', h⟩ <;> cases h
      simp
    · rw [if_neg h5] at h
      rcases h with h | ⟨w', h⟩ <;> cases h
def words (l : List Nat) : Option (List Wd) :=
  match h : step l with
  | .stop => some []
  | .bad => none
  | .skip r => words r
  | .word w r => (words r).map (w :: ·)
termination_by l.length
decreasing_by
  · exact step_less l r (.inl h)
  · exact step_less l r (.inr ⟨w, h⟩)
theorem words_stop {l : List Nat} (h : step l = .stop) : words l = some [] := by
  rw [words]
  split <;> simp_all
theorem words_bad {l : List Nat} (h : step l = .bad) : words l = none := by
  rw [words]
  split <;> simp_all
theorem words_skip {l r : List Nat} (h : step l = .skip r) : words l = words r := by
  rw [words]
  split <;> simp_all
theorem words_word {l r : List Nat} {w : Wd} (h : step l = .word w r) : words l = (words r).map (w :: ·) := by
  rw [words]
  split <;> simp_all
/-- behind a # nothing counts -/
theorem tw_app {pre post : List Nat} : (pre ++ 35 :: post).takeWhile isNS = pre.takeWhile isNS := by
  induction pre with
  | nil => rfl
  | cons c r ih =>
    rw [List.cons_append, List.takeWhile_cons, List.takeWhile_cons, ih]
theorem tw_le (l : List Nat) : (l.takeWhile isNS).length ≤ l.length := by
  induction l with
  | nil => simp
  | cons c r ih =>
    rw [List.takeWhile_cons]
    split <;> simp <;> omega
theorem words_cut (post : List Nat) : ∀ (n : Nat) (pre : List Nat), pre.length ≤ n → 35 ∉ pre → words (pre ++ 35 :: post) = words pre
  | n, [], _, _ => by
    rw [words_stop (l := [] ++ 35 :: post) rfl, words_stop (l := []) rfl]
  | 0, c :: r, h, _ => by simp at h
  | n + 1, c :: r, h, hn => by
    have hc : c ≠ 35 := fun z => hn (by rw [z]; simp)
    have hr : 35 ∉ r := fun z => hn (List.mem_cons_of_mem _ z)
    have hl : r.length ≤ n := by simpa using h
    have tw := tw_app (pre := c :: r) (post := post)
    rw [List.cons_append] at tw
    rw [List.cons_append]
    by_cases h2 : c = 32
    · have s1 : step (c :: (r ++ 35 :: post)) = .skip (r ++ 35 :: post) := by rw [step, if_neg hc, if_pos h2]
      have s2 : step (c :: r) = .skip r := by rw [step, if_neg hc, if_pos h2]
      rw [words_skip s1, words_skip s2, words_cut post n r hl hr]
    by_cases h3 : (c :: r).takeWhile isNS ≠ []
    · have hp : 0 < ((c :: r).takeWhile isNS).length := List.length_pos_iff.mpr h3
      cases hw : runW ((c :: r).takeWhile isNS) with
      | none =>
        have s1 : step (c :: (r ++ 35 :: post)) = .bad := by rw [step, if_neg hc, if_neg h2, tw, if_pos h3, hw]
        have s2 : step (c :: r) = .bad := by rw [step, if_neg hc, if_neg h2, if_pos h3, hw]
        rw [words_bad s1, words_bad s2]
      | some w =>
        have s1 : step (c :: (r ++ 35 :: post)) = .word w ((c :: (r ++ 35 :: post)).drop ((c :: r).takeWhile isNS).length) := by rw [step, if_neg hc, if_neg h2, tw, if_pos h3, hw]
        have s2 : step (c :: r) = .word w ((c :: r).drop ((c :: r).takeWhile isNS).length) := by rw [step, if_neg hc, if_neg h2, if_pos h3, hw]
        have dl := tw_le (c :: r)
        have d1 : (c :: (r ++ 35 :: post)).drop ((c :: r).takeWhile isNS).length = (c :: r).drop ((c :: r).takeWhile isNS).length ++ 35 :: post := by
          rw [← List.cons_append, List.drop_append_of_le_length dl]
        rw [words_word s1, words_word s2, d1, words_cut post n _ (by rw [List.length_drop, List.length_cons]; omega) fun z => hn (List.mem_of_mem_drop z)]
    by_cases h4 : c = 61 ∧ r.head? = some 61
    · obtain ⟨h41, h42⟩ := h4
      cases r with
      | nil => cases h42
      | cons d r =>
        have s1 : step (c :: (d :: r ++ 35 :: post)) = .word (.mark [61, 61]) (r ++ 35 :: post) := by
          rw [step, if_neg hc, if_neg h2, tw, if_neg h3, if_pos ⟨h41, h42⟩] <;> rfl
        have s2 : step (c :: d :: r) = .word (.mark [61, 61]) r := by
          rw [step, if_neg hc, if_neg h2, if_neg h3, if_pos ⟨h41, h42⟩] <;> rfl
        rw [words_word s1, words_word s2, words_cut post n r (by simp at hl; omega) fun z => hr (List.mem_cons_of_mem _ z)]
    have h4' : ¬ (c = 61 ∧ (r ++ 35 :: post).head? = some 61) := fun z => h4 ⟨z.1, by
      cases r with
      | nil => exact absurd (Option.some.inj z.2) (by decide)
      | cons d r => exact z.2⟩
    by_cases h5 : c ∈ marks1
    · have s1 : step (c :: (r ++ 35 :: post)) = .word (.mark [c]) (r ++ 35 :: post) := by rw [step, if_neg hc, if_neg h2, tw, if_neg h3, if_neg h4', if_pos h5]
      have s2 : step (c :: r) = .word (.mark [c]) r := by rw [step, if_neg hc, if_neg h2, if_neg h3, if_neg h4, if_pos h5]
      rw [words_word s1, words_word s2, words_cut post n r hl hr]
    · have s1 : step (c :: (r ++ 35 :: post)) = .bad := by rw [step, if_neg hc, if_neg h2, tw, if_neg h3, if_neg h4', if_neg h5]
      have s2 : step (c :: r) = .bad := by rw [step, if_neg hc, if_neg h2, if_neg h3, if_neg h4, if_neg h5]
      rw [words_bad s1, words_bad s2]
/-- what the program tells of one word's text -/
def nameOk (a : List Nat) : Bool := decide (1 ≤ a.length) && decide (a.length ≤ 8) && isL (a.headD 0) && !decide (a ∈ toldL) && a.all isNS
def numOk (a : List Nat) : Bool := !decide (badNum a) && a.all isF
def wordBy (a : List Nat) : Option Wd :=
  if a ∈ toldL then some (.told a) else if a ∈ marksL then some (.mark a) else if nameOk a = true then some (.name a) else if numOk a = true then some (.num a) else none
theorem ns_not_mark {a : List Nat} (h : a ≠ []) (hn : a.all isNS = true) : a ∉ marksL := fun z => by
  have : ∀ m ∈ marksL, m.all isNS = false := by decide
  rw [this a z] at hn
  cases hn
theorem f_not_l {c : Nat} (h : isF c = true) : isL c = false := by
  unfold isF isL at *
  simp at *
  omega
theorem run_by {a : List Nat} (h : a ≠ []) (hn : a.all isNS = true) : wordBy a = runW a := by
  unfold wordBy runW
  by_cases h1 : a ∈ toldL
  · rw [if_pos h1, if_pos h1]
  rw [if_neg h1, if_neg h1, if_neg (ns_not_mark h hn)]
  obtain ⟨c, r, rfl⟩ : ∃ c r, a = c :: r := by
    cases a with
    | nil => exact absurd rfl h
    | cons c r => exact ⟨c, r, rfl⟩
  have hc : isNS c = true := List.all_eq_true.mp hn c (by simp)
  by_cases h2 : (c :: r).all isF = true
  · have fc : isF c = true := List.all_eq_true.mp h2 c (by simp)
    have n1 : nameOk (c :: r) = false := by
      unfold nameOk
      rw [show isL ((c :: r).headD 0) = false from f_not_l fc]
      simp
    rw [if_pos h2, n1, if_neg Bool.false_ne_true]
    unfold numOk
    rw [h2, Bool.and_true]
    by_cases h3 : badNum (c :: r)
    · rw [if_pos h3, decide_eq_true h3, if_neg (by decide)]
    · rw [if_neg h3, decide_eq_false h3, if_pos (by decide)]
  · have f2 : (c :: r).all isF = false := Bool.eq_false_iff.mpr h2
    rw [if_neg h2]
    have n2 : numOk (c :: r) = false := by
      unfold numOk
      rw [f2, Bool.and_false]
    rw [n2, if_neg (show ¬ false = true by decide)]
    by_cases h4 : isF c = true
    · have A : nameOk (c :: r) = false := by
        unfold nameOk
        rw [show isL ((c :: r).headD 0) = false from f_not_l h4]
        simp
      have B : isF ((c :: r).headD 0) = true ∨ (c :: r).length > 8 := Or.inl h4
      rw [A, if_neg Bool.false_ne_true, if_pos B]
    · have lc : isL c = true := by
        unfold isNS at hc
        rw [Bool.eq_false_iff.mpr h4, Bool.or_false] at hc
        exact hc
      by_cases h5 : (c :: r).length > 8
      · have A : nameOk (c :: r) = false := by
          unfold nameOk
          rw [decide_eq_false (show ¬ (c :: r).length ≤ 8 by omega)]
          simp
        have B : isF ((c :: r).headD 0) = true ∨ (c :: r).length > 8 := Or.inr h5
        rw [A, if_neg Bool.false_ne_true, if_pos B]
      · have A : nameOk (c :: r) = true := by
          unfold nameOk
          rw [decide_eq_true (show (c :: r).length ≤ 8 by omega), decide_eq_true (show 1 ≤ (c :: r).length by simp), show isL ((c :: r).headD 0) = true from lc, decide_eq_false h1, hn] <;> rfl
        have B : ¬ (isF ((c :: r).headD 0) = true ∨ (c :: r).length > 8) := fun z => Or.elim z h4 h5
        rw [A, if_pos rfl, if_neg B]
theorem one_by {c : Nat} (h : isNS c = false) : wordBy [c] = if c ∈ marks1 then some (.mark [c]) else none := by
  have t1 : [c] ∉ toldL := fun z => by
    have : ∀ m ∈ toldL, m.length ≠ 1 := by decide
    exact this [c] z rfl
  unfold wordBy
  rw [if_neg t1]
  have mm : [c] ∈ marksL ↔ c ∈ marks1 := by
    unfold marksL marks1
    simp
  have l0 : isL c = false := by
    unfold isNS at h
    exact (Bool.or_eq_false_iff.mp h).1
  have f0 : isF c = false := by
    unfold isNS at h
    exact (Bool.or_eq_false_iff.mp h).2
  by_cases h2 : c ∈ marks1
  · rw [if_pos (mm.mpr h2), if_pos h2]
  · rw [if_neg (fun z => h2 (mm.mp z)), if_neg h2]
    have n1 : nameOk [c] = false := by
      unfold nameOk
      rw [show isL ([c].headD 0) = false from l0]
      simp
    have n2 : numOk [c] = false := by
      unfold numOk
      rw [show [c].all isF = false by simp [f0], Bool.and_false]
    rw [n1, n2]
    simp
/-- a text is one name -/
theorem wlen : ∀ (n : Nat) (l : List Nat), l.length ≤ n → ∀ ws a, words l = some ws → Wd.name a ∈ ws → a.length ≤ l.length
  | n, [], _, ws, a, h, ha => by
    rw [words_stop rfl] at h
    cases h
    simp at ha
  | 0, c :: r, h, _, _, _, _ => by simp at h
  | n + 1, c :: r, hl, ws, a, h, ha => by
    cases hs : step (c :: r) with
    | stop =>
      rw [words_stop hs] at h
      cases h
      simp at ha
    | bad =>
      rw [words_bad hs] at h
      cases h
    | skip t =>
      rw [words_skip hs] at h
      have := step_less _ _ (.inl hs)
      have := wlen n t (by simp at *; omega) ws a h ha
      omega
    | word w t =>
      rw [words_word hs] at h
      have ls := step_less _ _ (.inr ⟨w, hs⟩)
      cases ht : words t with
      | none =>
        rw [ht] at h
        cases h
      | some us =>
        rw [ht] at h
        cases h
        rcases List.mem_cons.mp ha with e | e
        · subst e
          rw [step] at hs
          by_cases h1 : c = 35
          · rw [if_pos h1] at hs
            cases hs
          rw [if_neg h1] at hs
          by_cases h2 : c = 32
          · rw [if_pos h2] at hs
            cases hs
          rw [if_neg h2] at hs
          by_cases h3 : (c :: r).takeWhile isNS ≠ []
          · rw [if_pos h3] at hs
            cases hw : runW ((c :: r).takeWhile isNS) with
            | none =>
              rw [hw] at hs
              cases hs
            | some w =>
              rw [hw] at hs
              cases hs
              have : a = (c :: r).takeWhile isNS := by
                unfold runW at hw
                split at hw
                · cases hw
                · split at hw
                  · split at hw <;> cases hw
                  · split at hw
                    · cases hw
                    · cases hw
                      rfl
              rw [this]
              exact tw_le _
          rw [if_neg h3] at hs
          split at hs
          · cases hs
          · split at hs <;> cases hs
        · have := wlen n t (by simp at *; omega) us a ht e
          omega
theorem tw_all {l : List Nat} (h : l.all isNS = true) : l.takeWhile isNS = l := by
  induction l with
  | nil => rfl
  | cons c r ih =>
    have h' := Bool.and_eq_true_iff.mp (show (isNS c && r.all isNS) = true from h)
    rw [List.takeWhile_cons, if_pos h'.1, ih h'.2]
theorem tw_ns (l : List Nat) : (l.takeWhile isNS).all isNS = true := by
  induction l with
  | nil => rfl
  | cons c r ih =>
    rw [List.takeWhile_cons]
    split
    · rename_i h
      show (isNS c && (r.takeWhile isNS).all isNS) = true
      rw [h, ih] <;> rfl
    · rfl
theorem name_iff (l : List Nat) : words l = some [.name l] ↔ nameOk l = true := by
  constructor
  · intro h
    cases l with
    | nil =>
      rw [words_stop rfl] at h
      cases h
    | cons c r =>
      cases hs : step (c :: r) with
      | stop =>
        rw [words_stop hs] at h
        cases h
      | bad =>
        rw [words_bad hs] at h
        cases h
      | skip t =>
        rw [words_skip hs] at h
        have l1 := step_less _ _ (.inl hs)
        have l2 := wlen t.length t (Nat.le_refl _) _ (c :: r) h (by simp)
        omega
      | word w t =>
        rw [words_word hs] at h
        have l1 := step_less _ _ (.inr ⟨w, hs⟩)
        cases ht : words t with
        | none =>
          rw [ht] at h
          cases h
        | some us =>
          rw [ht] at h
          have h := Option.some.inj h
          injection h with h1 h2
          subst h1
          rw [step] at hs
          by_cases h1 : c = 35
          · rw [if_pos h1] at hs
            cases hs
          rw [if_neg h1] at hs
          by_cases h2 : c = 32
          · rw [if_pos h2] at hs
            cases hs
          rw [if_neg h2] at hs
          by_cases h3 : (c :: r).takeWhile isNS ≠ []
          · rw [if_pos h3] at hs
            cases hw : runW ((c :: r).takeWhile isNS) with
            | none =>
              rw [hw] at hs
              cases hs
            | some w =>
              rw [hw] at hs
              have hs1 : w = .name (c :: r) := by injection hs
              subst hs1
              have hr := run_by h3 (tw_ns _)
              rw [hw] at hr
              unfold wordBy at hr
              split at hr
              · cases hr
              · split at hr
                · cases hr
                · split at hr
                  · rename_i hn
                    have e : (c :: r).takeWhile isNS = c :: r := by
                      have := Option.some.inj hr
                      injection this
                    rw [e] at hn
                    exact hn
                  · split at hr <;> cases hr
          rw [if_neg h3] at hs
          split at hs
          · cases hs
          · split at hs <;> cases hs
  · intro h
    have hk := h
    unfold nameOk at hk
    simp only [Bool.and_eq_true, decide_eq_true_eq, Bool.not_eq_true', decide_eq_false_iff_not] at hk
    obtain ⟨⟨⟨⟨h1, h2⟩, h3⟩, h4⟩, h5⟩ := hk
    cases l with
    | nil => simp at h1
    | cons c r =>
      have h3' : isL c = true := h3
      have c1 : c ≠ 35 ∧ c ≠ 32 := by
        unfold isL at h3'
        simp at h3'
        omega
      have tw := tw_all h5
      have hw : runW (c :: r) = some (.name (c :: r)) := by
        rw [← run_by (by simp) h5]
        unfold wordBy
        rw [if_neg h4, if_neg (ns_not_mark (by simp) h5), if_pos h]
      have s1 : step (c :: r) = .word (.name (c :: r)) [] := by
        rw [step, if_neg c1.1, if_neg c1.2, tw, if_pos (by simp), hw]
        simp
      rw [words_word s1, words_stop (l := []) rfl] <;> rfl
end M03

set_option Elab.async false
set_option linter.all false
set_option maxRecDepth 100000
set_option maxHeartbeats 4000000
namespace K03
open PySem PySem.Spec PyProof.Rows L2 Z
open Evl (Ex ex_l ex_t sq_of st_of fresh_back RetL RetV)
local macro_rules | `(tactic| walk_at "zc") => `(tactic| first
  | (show (0 : Int) < _; omega)
  | exact ⟨by decide, by decide⟩
  | exact Or.inl ⟨by decide, by decide⟩
  | exact Or.inr ⟨by decide, by decide⟩
  | exact ⟨by decide, by decide, by decide⟩
  | exact Or.inl ⟨by omega, by omega⟩
  | exact Or.inr ⟨by omega, by omega⟩)
local macro_rules | `(tactic| walk_at "sq") => `(tactic| first
  | assumption
  | exact sq_of (by assumption)
  | exact sq_of upd_same
  | exact st_of (by assumption)
  | exact st_of upd_same
  | (refine ex_l (by assumption) ?_; walk_at "sq")
  | (refine ex_t (by assumption) ?_; walk_at "sq")
  | (refine ex_l (Ex.new (by assumption)) ?_; walk_at "sq")
  | (refine ex_t (Ex.new (by assumption)) ?_; walk_at "sq"))
local macro_rules | `(tactic| walk_at "ex") => `(tactic| first
  | exact Ex.refl _
  | assumption
  | (refine Ex.trans ?_ (Ex.new (by assumption)); walk_at "ex")
  | ((refine' Ex.trans ?_ ?zx); (case zx => assumption); walk_at "ex"))
local macro_rules | `(tactic| walk_at "z1") => `(tactic| first
  | with_reducible exact trivial
  | with_reducible refine z_seq ?_
  | with_reducible refine z_asg ?_
  | with_reducible refine z_ret ?_
  | with_reducible refine z_ifs ?_
  | with_reducible refine z_op ?_
  | with_reducible refine z_c ?_
  | ((with_reducible refine' z_var ?zh ?_); (case zh => exact rfl))
  | with_reducible refine z_i0 ?_
  | with_reducible refine z_gname ?_
  | ((with_reducible refine z_i ?zh ?_); (case zh => walk_at "zc"))
  | with_reducible refine z_next ?_
  | with_reducible refine z_test ?_
  | with_reducible refine z_tB ?_
  | with_reducible refine z_bl ?_
  | ((with_reducible refine z_eq ?zh ?_); (case zh => rfl))
  | ((with_reducible refine z_ne ?zh ?_); (case zh => rfl))
  | with_reducible refine z_cons ?_
  | with_reducible refine z_nil ?_
  | with_reducible refine z_call ?_
  | with_reducible refine z_cb ?_
  | with_reducible refine z_lst ?_
  | with_reducible refine z_tup ?_
  | with_reducible refine z_un ?_
  | with_reducible refine z_u ?_
  | with_reducible refine z_if ?_
  | with_reducible refine z_andT ?_
  | with_reducible refine z_orT ?_
  | with_reducible refine z_notT ?_
  | with_reducible refine z_trub ?_
  | with_reducible refine z_trui ?_
  | with_reducible refine z_trun ?_
  | with_reducible refine z_tru ?_
  | with_reducible refine z_and ?_
  | with_reducible refine z_or ?_
  | with_reducible refine z_not ?_
  | with_reducible refine z_yes ?_
  | with_reducible refine z_isN ?_
  | with_reducible refine z_notN ?_
  | with_reducible refine z_chain ?_
  | with_reducible refine z_int1 ?_
  | with_reducible refine z_intb ?_
  | with_reducible refine z_max2 ?_
  | with_reducible refine z_min2 ?_
  | with_reducible refine z_revL ?_
  | with_reducible refine z_nopart ?_
  | with_reducible refine z_part ?_
  | with_reducible refine z_part1 ?_
  | with_reducible refine z_sl ?_
  | with_reducible refine z_drop ?_
  | with_reducible refine z_bm ?_
  | with_reducible refine z_bm0 ?_
  | with_reducible refine z_tys ?_
  | with_reducible refine z_brk ?_
  | with_reducible refine z_cont ?_
  | with_reducible refine z_retN ?_
  | with_reducible refine z_fl ?_
  | with_reducible refine z_ft ?_
  | with_reducible refine z_fs ?_
  | with_reducible refine z_fr1 ?_
  | with_reducible refine z_fr2 ?_
  | with_reducible refine z_fz ?_
  | with_reducible refine z_fe ?_
  | with_reducible refine z_cl ?_
  | with_reducible refine z_cs ?_
  | with_reducible refine z_cr1 ?_
  | with_reducible refine z_crv ?_
  | with_reducible refine z_isbl ?_
  | with_reducible refine z_notbl ?_
  | with_reducible refine ite_t ?_
  | with_reducible refine ite_f ?_
  | ((with_reducible refine' z_aug ?zh ?_); (case zh => exact rfl))
  | with_reducible refine z_ipi ?_)
local macro_rules | `(tactic| walk_at "zz") => `(tactic| repeat walk_at "z1")

open M03
/-- signs that a text may have -/
def okS (l : List Nat) : Prop := ∀ c ∈ l, c < 1114112
def nv (l : List Nat) : Int := ((NumText.digitsVal l : Nat) : Int)
def pd : Wd → PyData
  | .told l => .tuple [.str "told", .str (S l)]
  | .mark l => .tuple [.str "mark", .str (S l)]
  | .name l => .tuple [.str "name", .str (S l)]
  | .num l => .tuple [.str "number", .int (nv l)]
/-- what words tell: a new list, or None -/
def RetW (K : PySem.W.Frag) (r : Option (List Wd)) (H : Hp) (Q : VK) : Prop := match r with
  | none => RetV .non H Q
  | some ws => RetLD K (ws.map pd) H Q
def RetO (K : PySem.W.Frag) (r : Option Wd) (I H : Hp) (Q : VK) : Prop := match r with
  | none => RetV .non H Q
  | some w => RetD K (pd w) I H Q
/-- no text -/
def Odd (H : Hp) (v : V) : Prop := (∃ b, v = .bl b) ∨ v = .non ∨ (∃ i, v = .int i) ∨ ∃ a, v = .ref a ∧ ((∃ xs, H a = some (.lst xs)) ∨ (∃ xs, H a = some (.tup xs)) ∨ ∃ kvs, H a = some (.dK kvs))
theorem Odd.mono {H H' : Hp} {v : V} (e : Ex H H') (h : Odd H v) : Odd H' v := by
  rcases h with h | h | h | ⟨a, ha, ⟨xs, h⟩ | ⟨xs, h⟩ | ⟨xs, h⟩⟩
  · exact .inl h
  · exact .inr (.inl h)
  · exact .inr (.inr (.inl h))
  · exact .inr (.inr (.inr ⟨a, ha, .inl ⟨xs, e a _ h⟩⟩))
  · exact .inr (.inr (.inr ⟨a, ha, .inr (.inl ⟨xs, e a _ h⟩)⟩))
  · exact .inr (.inr (.inr ⟨a, ha, .inr (.inr ⟨xs, e a _ h⟩)⟩))
def Thing (H : Hp) (v : V) (b : Bool) : Prop := (∃ l, v = .str (S l) ∧ l.length ≤ 5000 ∧ b = nameOk l) ∨ (Odd H v ∧ b = false)
/-- a list of words, or None -/
def WordsAt (K : PySem.W.Frag) (H : Hp) (v : V) (r : Option (List Wd)) : Prop := match r with
  | none => v = .non
  | some ws => ∃ a xs, v = .ref a ∧ SqL K H a xs ∧ DpAll K H xs (ws.map pd)
def endSz (m : List Nat) : Nat := if m.takeWhile isNS ≠ [] then (m.takeWhile isNS).length else if m.take 2 = [61, 61] then 2 else 1
def sp_is_name (K : PySem.W.Frag) : Sp := fun vs H Q _ => ∃ (v : V) (b : Bool), vs = [v] ∧ Thing H v b ∧ RetV (.bl b) H Q
def sp_words_of (K : PySem.W.Frag) : Sp := fun vs H Q _ => ∃ (l : List Nat), vs = [.str (S l)] ∧ l.length ≤ 5000 ∧ RetW K (words l) H Q
def sp_p_end_of : Sp := fun vs H Q _ => ∃ (l : List Nat) (at_ : Nat), vs = [.str (S l), .int (at_ : Int)] ∧ l.length ≤ 5000 ∧ at_ < l.length ∧ RetV (.int ((at_ + endSz (l.drop at_) : Nat) : Int)) H Q
def sp_p_word_by (K : PySem.W.Frag) : Sp := fun vs H Q _ => ∃ (l : List Nat) (I : Hp), vs = [.str (S l)] ∧ Ex I H ∧ l ≠ [] ∧ l.length ≤ 5000 ∧ RetO K (wordBy l) I H Q
def sp_number_by : Sp := fun vs H Q _ => ∃ (l : List Nat), vs = [.str (S l)] ∧ l ≠ [] ∧ l.length ≤ 5000 ∧ RetV (if numOk l = true then .int (nv l) else .non) H Q
def mixd (c k : Int) : Int := (c % 1000000007 + 31 * k * k + 7) * 48271 % 2147483647 * (16807 + 7919 * k) % 2147483629
def sp_L_mixed : Sp := fun vs H Q _ => ∃ (c k : Int), vs = [.int c, .int k] ∧ (0 ≤ k ∧ k ≤ 100) ∧ RetV (.int (mixd c k)) H Q
def signsL : List Nat := (List.range 95).filter (fun i => i ≠ 5) |>.map (· + 32)
def sp_L_signs : Sp := fun vs H Q _ => ∃ (u : Unit), vs = [] ∧ RetV (.str (S signsL)) H Q
def sp_L_told : Sp := fun vs H Q _ => ∃ (u : Unit), vs = [] ∧ RetL (toldL.map fun l => V.str (S l)) H Q
def sp_L_run (K : PySem.W.Frag) : Sp := fun vs H Q _ => ∃ (l : List Nat) (I : Hp), vs = [.str (S l)] ∧ Ex I H ∧ l ≠ [] ∧ l.length ≤ 5000 ∧ RetO K (runW l) I H Q
def sp_L_words (K : PySem.W.Frag) : Sp := fun vs H Q _ => ∃ (l : List Nat), vs = [.str (S l)] ∧ l.length ≤ 5000 ∧ RetW K (words l) H Q
def sp_L_name : Sp := fun vs H Q _ => ∃ (m : Int), vs = [.int m] ∧ 0 ≤ m ∧ ∀ l : List Nat, l.length ≤ 40 → okS l → RetV (.str (S l)) H Q
def sp_L_piece : Sp := fun vs H Q _ => ∃ (m : Int), vs = [.int m] ∧ (0 ≤ m ∧ m < 2147483648) ∧ ∀ l : List Nat, l.length ≤ 60 → okS l → RetV (.str (S l)) H Q
def sp_L_row (K : PySem.W.Frag) : Sp := fun vs H Q _ => ∃ (a : Addr) (ns : List Int) (f : Nat), vs = [.ref a, .int (f : Int)] ∧ SqL K H a (ns.map V.int) ∧ ns.length ≤ 63 ∧ f ≤ 31 ∧ ∀ l : List Nat, l.length ≤ 5000 → okS l → RetV (.str (S l)) H Q
def sp_L_same (K : PySem.W.Frag) : Sp := fun vs H Q _ => ∃ (v u : V) (r : Option (List Wd)), vs = [v, u] ∧ WordsAt K H v r ∧ WordsAt K H u r ∧ (∀ ws, r = some ws → clAll (ws.map pd) = true ∧ ws.length ≤ 5000) ∧ RetV (.bl true) H Q
def sp_L_is (K : PySem.W.Frag) : Sp := fun vs H Q _ => ∃ (v : V) (b : Bool), vs = [v] ∧ Thing H v b ∧ (∀ l, v = .str (S l) → okS l) ∧ RetV (.bl true) H Q
def sp_law (K : PySem.W.Frag) : Sp := fun vs H Q _ => ∃ (a : Addr) (ns : List Int), vs = [.ref a] ∧ SqL K H a (ns.map V.int) ∧ ns.length ≤ 63 ∧ RetV (.bl true) H Q

theorem len_L_mixed : ∀ vs H Q E, sp_L_mixed vs H Q E → vs.length = 2 := by
  intro vs H Q E h
  obtain ⟨_, _, rfl, _⟩ := h
  rfl
theorem len_L_told : ∀ vs H Q E, sp_L_told vs H Q E → vs.length = 0 := by
  intro vs H Q E h
  obtain ⟨_, rfl, _⟩ := h
  rfl
theorem len_L_signs : ∀ vs H Q E, sp_L_signs vs H Q E → vs.length = 0 := by
  intro vs H Q E h
  obtain ⟨_, rfl, _⟩ := h
  rfl
theorem len_L_name : ∀ vs H Q E, sp_L_name vs H Q E → vs.length = 1 := by
  intro vs H Q E h
  obtain ⟨_, rfl, _⟩ := h
  rfl
theorem len_L_piece : ∀ vs H Q E, sp_L_piece vs H Q E → vs.length = 1 := by
  intro vs H Q E h
  obtain ⟨_, rfl, _⟩ := h
  rfl
theorem len_L_row {K : PySem.W.Frag} : ∀ vs H Q E, sp_L_row K vs H Q E → vs.length = 2 := by
  intro vs H Q E h
  obtain ⟨_, _, _, rfl, _⟩ := h
  rfl
theorem len_L_run {K : PySem.W.Frag} : ∀ vs H Q E, sp_L_run K vs H Q E → vs.length = 1 := by
  intro vs H Q E h
  obtain ⟨_, _, rfl, _⟩ := h
  rfl
theorem len_L_words {K : PySem.W.Frag} : ∀ vs H Q E, sp_L_words K vs H Q E → vs.length = 1 := by
  intro vs H Q E h
  obtain ⟨_, rfl, _⟩ := h
  rfl
theorem len_p_end_of : ∀ vs H Q E, sp_p_end_of vs H Q E → vs.length = 2 := by
  intro vs H Q E h
  obtain ⟨_, _, rfl, _⟩ := h
  rfl
theorem len_is_name {K : PySem.W.Frag} : ∀ vs H Q E, sp_is_name K vs H Q E → vs.length = 1 := by
  intro vs H Q E h
  obtain ⟨_, _, rfl, _⟩ := h
  rfl
theorem len_number_by : ∀ vs H Q E, sp_number_by vs H Q E → vs.length = 1 := by
  intro vs H Q E h
  obtain ⟨_, rfl, _⟩ := h
  rfl
theorem len_p_word_by {K : PySem.W.Frag} : ∀ vs H Q E, sp_p_word_by K vs H Q E → vs.length = 1 := by
  intro vs H Q E h
  obtain ⟨_, _, rfl, _⟩ := h
  rfl
theorem len_words_of {K : PySem.W.Frag} : ∀ vs H Q E, sp_words_of K vs H Q E → vs.length = 1 := by
  intro vs H Q E h
  obtain ⟨_, rfl, _⟩ := h
  rfl
theorem len_L_same {K : PySem.W.Frag} : ∀ vs H Q E, sp_L_same K vs H Q E → vs.length = 2 := by
  intro vs H Q E h
  obtain ⟨_, _, _, rfl, _⟩ := h
  rfl
theorem len_L_is {K : PySem.W.Frag} : ∀ vs H Q E, sp_L_is K vs H Q E → vs.length = 1 := by
  intro vs H Q E h
  obtain ⟨_, _, rfl, _⟩ := h
  rfl
theorem len_law {K : PySem.W.Frag} : ∀ vs H Q E, sp_law K vs H Q E → vs.length = 1 := by
  intro vs H Q E h
  obtain ⟨_, _, rfl, _⟩ := h
  rfl

/-- L_mixed -/
def rd_L_mixed : TS :=
  (tSeq (tAsg (tOp rModI (tOp rMulI (tOp rAddI (tOp rAddI (tOp rModI (tVar 0) (tC (.int 1000000007))) (tOp rMulI (tOp rMulI (tC (.int 31)) (tVar 1)) (tVar 1))) (tC (.int 7))) (tC (.int 48271))) (tC (.int 2147483647))) (gName 2))
    (tRet (tOp rModI (tOp rMulI (tVar 2) (tOp rAddI (tC (.int 16807)) (tOp rMulI (tC (.int 7919)) (tVar 1)))) (tC (.int 2147483629)))))


/-- L_told -/
def rd_L_told (K : PySem.W.Frag) : TS :=
  (tRet (tBM K "str" rSplit (tC (.str "part in out wire rest let use table memory if then else cut join fill")) (tCons (tC (.str " ")) tNil)))


/-- L_signs -/
def rd_L_signs : TS :=
  (tSeq (tAsg (tC (.str " !\"#$&'()*+,-./0123456789:;<=>?@ABCDEFGHIJKLMNOPQRSTUVWXYZ[\\]^_")) (gName 0))
    (tRet (tOp rAddStr (tVar 0) (tC (.str "`abcdefghijklmnopqrstuvwxyz{|}~")))))


/-- L_name -/
def rd_L_name (K : PySem.W.Frag) : TS :=
  (tSeq (tAsg (tC (.str "abcdefghijklmnopqrstuvwxyz")) (gName 1))
    (tSeq (tAsg (tOp rAddI (tC (.int 1)) (tOp rModI (tVar 0) (tC (.int 9)))) (gName 2))
    (tSeq (tAsg (tOp rIxS (tVar 1) (tOp rModI (tOp rDivI (tVar 0) (tC (.int 9))) (tC (.int 26)))) (gName 3))
    (tSeq (tAsg (tOp rAddStr (tVar 3) (tBM K "str" (rJoin K) (tC (.str "")) (tCons (tLc (iRng1 (tCons (tOp rSubI (tVar 2) (tC (.int 1))) tNil)) (gName 5) tYes (tOp rIxS (tOp rAddStr (tVar 1) (tC (.str "0123456789"))) (tOp rModI (tOp rDivI (tCall sp_L_mixed [] E0 (tCons (tVar 0) (tCons (tVar 5) tNil))) (tC (.int 5))) (tC (.int 36)))) [5]) tNil))) (gName 3))
    (tSeq (tAsg (tOp rModI (tOp rDivI (tVar 0) (tC (.int 234))) (tVar 2)) (gName 4))
    (tSeq (tIfS (tTest (tOp rEq (tOp rModI (tOp rDivI (tVar 0) (tC (.int 2106))) (tC (.int 6))) (tC (.int 1)))) (tRet (tOp rAddStr (tOp rAddStr (tSl rSlS (tVar 3) tNoPart (tPart (tVar 4))) (tOp rIxS (tCall sp_L_signs [] E0 tNil) (tOp rModI (tOp rDivI (tVar 0) (tC (.int 12636))) (tC (.int 94))))) (tSl rSlS (tVar 3) (tPart (tOp rAddI (tVar 4) (tC (.int 1)))) tNoPart)))
    tNext)
    (tRet (tVar 3))))))))


/-- L_piece -/
def rd_L_piece (K : PySem.W.Frag) : TS :=
  (tSeq (tAsg (tOp rDivI (tVar 0) (tC (.int 9))) (gName 1))
    (tSeq (tAsg (tCall sp_L_told [] E0 tNil) (gName 2))
    (tSeq (tIfS (tTest (tOp rLtI (tOp rModI (tVar 0) (tC (.int 9))) (tC (.int 3)))) (tRet (tCall sp_L_name [] E0 (tCons (tVar 1) tNil)))
    tNext)
    (tSeq (tIfS (tTest (tOp rEq (tOp rModI (tVar 0) (tC (.int 9))) (tC (.int 3)))) (tRet (tOp (rIxL K) (tVar 2) (tOp rModI (tVar 1) (tC (.int 15)))))
    tNext)
    (tSeq (tIfS (tTest (tOp rEq (tOp rModI (tVar 0) (tC (.int 9))) (tC (.int 4)))) (tSeq (tAsg (tOp (rIxL K) (tVar 2) (tOp rModI (tVar 1) (tC (.int 15)))) (gName 3))
    (tRet (tOp (rIxL K) (tLst (tCons (tOp rAddStr (tVar 3) (tC (.str "s"))) (tCons (tSl rSlS (tVar 3) tNoPart (tPart (tUn rNegI (tC (.int 1))))) (tCons (tOp rAddStr (tC (.str "1")) (tVar 3)) (tCons (tOp rAddStr (tVar 3) (tC (.str "1"))) (tCons (tBM0 K "str" rUpper (tVar 3)) (tCons (tOp rAddStr (tVar 3) (tVar 3)) tNil))))))) (tOp rModI (tOp rDivI (tVar 1) (tC (.int 15))) (tC (.int 6))))))
    tNext)
    (tSeq (tIfS (tTest (tOp rEq (tOp rModI (tVar 0) (tC (.int 9))) (tC (.int 5)))) (tSeq (tAsg (tOp (rIxL K) (tLst (tCons (tOp rAddI (tC (.int 1)) (tOp rModI (tVar 1) (tC (.int 4)))) (tCons (tOp rAddI (tC (.int 19)) (tOp rModI (tVar 1) (tC (.int 3)))) (tCons (tOp rAddI (tC (.int 1)) (tOp rModI (tVar 1) (tC (.int 21)))) tNil)))) (tOp rModI (tOp rDivI (tVar 1) (tC (.int 21))) (tC (.int 3)))) (gName 4))
    (tRet (tOp rAddStr (tOp (rIxL K) (tLst (tCons (tC (.str "0")) (tCons (tC (.str "00")) (tCons (tC (.str "")) (tCons (tC (.str "")) tNil))))) (tOp rModI (tOp rDivI (tVar 1) (tC (.int 63))) (tC (.int 4)))) (tSl rSlS (tCB cStrInt (tCons (tOp rAddI (tOp rPowI (tC (.int 10)) (tC (.int 22))) (tOp rModI (tOp rMulI (tVar 1) (tOp rPowI (tC (.int 48271)) (tC (.int 4)))) (tOp rPowI (tC (.int 10)) (tC (.int 21))))) tNil)) (tPart (tC (.int 2))) (tPart (tOp rAddI (tC (.int 2)) (tVar 4)))))))
    tNext)
    (tSeq (tIfS (tTest (tOp rLtI (tOp rModI (tVar 0) (tC (.int 9))) (tC (.int 8)))) (tRet (tOp (rIxL K) (tBM K "str" rSplit (tC (.str ": , . = == < & | ^ + - ~ ( ) [ ] = ==")) (tCons (tC (.str " ")) tNil)) (tOp rModI (tVar 1) (tC (.int 18)))))
    tNext)
    (tRet (tOp (rIxL K) (tLst (tCons (tOp rIxS (tCall sp_L_signs [] E0 tNil) (tOp rModI (tVar 1) (tC (.int 94)))) (tCons (tC (.str "  ")) (tCons (tC (.str "# in")) (tCons (tC (.str " #")) tNil))))) (tOp rModI (tOp rModI (tOp rDivI (tVar 1) (tC (.int 94))) (tC (.int 6))) (tC (.int 4))))))))))))


/-- L_row -/
def rd_L_row (K : PySem.W.Frag) : TS :=
  (tSeq (tAsg (tC (.str "")) (gName 2))
    (tSeq (tFor (iEnum K (tCons (tSl (rSlL K) (tVar 0) (tPart (tVar 1)) (tPart (tOp rAddI (tVar 1) (tC (.int 31))))) tNil)) (gTup K 2 (gCons (gName 3) (gCons (gName 4) gNil))) (tSeq (tAsg (tCall sp_L_mixed [] E0 (tCons (tVar 4) (tCons (tVar 3) tNil))) (gName 5))
    (tAsg (tOp rAddStr (tOp rAddStr (tVar 2) (tCall sp_L_piece [] E0 (tCons (tOp rDivI (tVar 5) (tC (.int 3))) tNil))) (tOp rMulStr (tC (.str " ")) (tCB cInt1 (tCons (tOp rGtI (tOp rModI (tVar 5) (tC (.int 3))) (tC (.int 0))) tNil)))) (gName 2))))
    (tRet (tVar 2))))


/-- L_run -/
def rd_L_run (K : PySem.W.Frag) : TS :=
  (tSeq (tIfS (tTest (tOp (rIn K false) (tVar 0) (tCall sp_L_told [] E0 tNil))) (tRet (tTup (tCons (tC (.str "told")) (tCons (tVar 0) tNil))))
    tNext)
    (tSeq (tAsg (tLc (iStr (tVar 0)) (gName 2) (tTest (tOp rInSgn (tVar 2) (tC (.str "0123456789")))) (tVar 2) [2]) (gName 1))
    (tSeq (tIfS (tTest (tOp rEq (tCB (cLenSeq K) (tCons (tVar 1) tNil)) (tCB cLenStr (tCons (tVar 0) tNil)))) (tSeq (tIfS (tOr (tTest (tOp rGtI (tCB cLenStr (tCons (tVar 0) tNil)) (tC (.int 20)))) (tAnd (tTest (tOp rEq (tOp rIxS (tVar 0) (tC (.int 0))) (tC (.str "0")))) (tTest (tOp rNe (tVar 0) (tC (.str "0")))))) (tRet (tC .non))
    tNext)
    (tRet (tTup (tCons (tC (.str "number")) (tCons (tCB cIntStr (tCons (tVar 0) tNil)) tNil)))))
    tNext)
    (tSeq (tIfS (tOr (tTest (tOp rInSgn (tOp rIxS (tVar 0) (tC (.int 0))) (tC (.str "0123456789")))) (tTest (tOp rGtI (tCB cLenStr (tCons (tVar 0) tNil)) (tC (.int 8))))) (tRet (tC .non))
    tNext)
    (tRet (tTup (tCons (tC (.str "name")) (tCons (tVar 0) tNil))))))))


/-- L_words -/
def rd_L_words (K : PySem.W.Frag) : TS :=
  (tSeq (tAsg (tLst tNil) (gName 1))
    (tSeq (tAsg (tVar 0) (gName 2))
    (tSeq (tWhile (tAnd (tTest (tOp rNe (tVar 2) (tC (.str "")))) (tTest (tOp rNe (tOp rIxS (tVar 2) (tC (.int 0))) (tC (.str "#"))))) (tSeq (tAsg (tC (.int 0)) (gName 3))
    (tSeq (tWhile (tAnd (tTest (tOp rLtI (tVar 3) (tCB cLenStr (tCons (tVar 2) tNil)))) (tTest (tOp rInSgn (tOp rIxS (tVar 2) (tVar 3)) (tC (.str "abcdefghijklmnopqrstuvwxyz0123456789"))))) (tAsg (tOp rAddI (tVar 3) (tC (.int 1))) (gName 3)))
    (tSeq (tAsg (tC .non) (gName 4))
    (tSeq (tIfS (tTest (tOp rEq (tOp rIxS (tVar 2) (tC (.int 0))) (tC (.str " ")))) (tSeq (tAsg (tSl rSlS (tVar 2) (tPart (tC (.int 1))) tNoPart) (gName 2))
    tCont)
    tNext)
    (tSeq (tIfS (tTest (tOp rGtI (tVar 3) (tC (.int 0)))) (tAsg (tCall (sp_L_run K) [] E0 (tCons (tSl rSlS (tVar 2) tNoPart (tPart (tVar 3))) tNil)) (gName 4))
    (tIfS (tTest (tOp rEq (tSl rSlS (tVar 2) tNoPart (tPart (tC (.int 2)))) (tC (.str "==")))) (tSeq (tAsg (tC (.int 2)) (gName 3))
    (tAsg (tTup (tCons (tC (.str "mark")) (tCons (tC (.str "==")) tNil))) (gName 4)))
    (tIfS (tTest (tOp rInSgn (tOp rIxS (tVar 2) (tC (.int 0))) (tC (.str ":,.=<&|^+-~()[]")))) (tSeq (tAsg (tC (.int 1)) (gName 3))
    (tAsg (tTup (tCons (tC (.str "mark")) (tCons (tOp rIxS (tVar 2) (tC (.int 0))) tNil))) (gName 4)))
    tNext)))
    (tSeq (tIfS (tB (tIsN (tVar 4))) (tRet (tC .non))
    tNext)
    (tSeq (tDrop (tBM K "list" rAppend (tVar 1) (tCons (tVar 4) tNil)))
    (tAsg (tSl rSlS (tVar 2) (tPart (tVar 3)) tNoPart) (gName 2))))))))))
    (tRet (tVar 1)))))


/-- p_end_of -/
def rd_p_end_of : TS :=
  (tSeq (tAsg (tVar 1) (gName 2))
    (tSeq (tWhile (tAnd (tTest (tOp rLtI (tVar 2) (tCB cLenStr (tCons (tVar 0) tNil)))) (tTest (tOp rInSgn (tOp rIxS (tVar 0) (tVar 2)) (tC (.str "abcdefghijklmnopqrstuvwxyz0123456789"))))) (tAug 2 (tC (.int 1)) (ipI fun i j => i + j)))
    (tSeq (tIfS (tTest (tOp rGtI (tVar 2) (tVar 1))) (tRet (tVar 2))
    tNext)
    (tSeq (tIfS (tTest (tOp rEq (tSl rSlS (tVar 0) (tPart (tVar 1)) (tPart (tOp rAddI (tVar 1) (tC (.int 2))))) (tC (.str "==")))) (tRet (tOp rAddI (tVar 1) (tC (.int 2))))
    tNext)
    (tRet (tOp rAddI (tVar 1) (tC (.int 1))))))))


/-- is_name -/
def rd_is_name (K : PySem.W.Frag) : TS :=
  (tSeq (tIfS (tOr (tNot (tTru K (tCB (rIsi K) (tCons (tVar 0) (tCons (tC (.ty "str")) tNil))))) (tNot (tTest (tChain rLeI rLeI (tC (.int 1)) (tCB cLenStr (tCons (tVar 0) tNil)) (tC (.int 8)))))) (tRet (tC (.bl false)))
    tNext)
    (tSeq (tIfS (tOr (tTest (tOp rNinSgn (tOp rIxS (tVar 0) (tC (.int 0))) (tC (.str "abcdefghijklmnopqrstuvwxyz")))) (tTest (tOp (rIn K false) (tVar 0) (tC (.ref (He.ga K "TOLD_WORDS")))))) (tRet (tC (.bl false)))
    tNext)
    (tRet (tCB (rAll K) (tCons (tLc (iStr (tVar 0)) (gName 1) tYes (tOp rInSgn (tVar 1) (tC (.str "abcdefghijklmnopqrstuvwxyz0123456789"))) [1]) tNil)))))


/-- number_by -/
def rd_number_by (K : PySem.W.Frag) : TS :=
  (tSeq (tIfS (tOr (tNot (tTest (tChain rLeI rLeI (tC (.int 1)) (tCB cLenStr (tCons (tVar 0) tNil)) (tC (.int 20))))) (tAnd (tTest (tOp rEq (tOp rIxS (tVar 0) (tC (.int 0))) (tC (.str "0")))) (tTest (tOp rNe (tVar 0) (tC (.str "0")))))) (tRet (tC .non))
    tNext)
    (tRet (tIf (tTru K (tCB (rAll K) (tCons (tLc (iStr (tVar 0)) (gName 1) tYes (tOp rInSgn (tVar 1) (tC (.str "0123456789"))) [1]) tNil))) (tCB cIntStr (tCons (tVar 0) tNil)) (tC .non))))


/-- p_word_by -/
def rd_p_word_by (K : PySem.W.Frag) : TS :=
  (tSeq (tIfS (tTest (tOp (rIn K false) (tVar 0) (tC (.ref (He.ga K "TOLD_WORDS"))))) (tRet (tTup (tCons (tC (.str "told")) (tCons (tVar 0) tNil))))
    tNext)
    (tSeq (tIfS (tTest (tOp (rIn K false) (tVar 0) (tC (.ref (He.ga K "MARKS"))))) (tRet (tTup (tCons (tC (.str "mark")) (tCons (tVar 0) tNil))))
    tNext)
    (tSeq (tIfS (tTru K (tCall (sp_is_name K) [] E0 (tCons (tVar 0) tNil))) (tRet (tTup (tCons (tC (.str "name")) (tCons (tVar 0) tNil))))
    tNext)
    (tSeq (tAsg (tCall sp_number_by [] E0 (tCons (tVar 0) tNil)) (gName 1))
    (tRet (tIf (tB (tIsN (tVar 1))) (tC .non) (tTup (tCons (tC (.str "number")) (tCons (tVar 1) tNil)))))))))


/-- words_of -/
def rd_words_of (K : PySem.W.Frag) : TS :=
  (tSeq (tAsg (tOp (rIxT K) (tBM K "str" rPartition (tVar 0) (tCons (tC (.str "#")) tNil)) (tC (.int 0))) (gName 1))
    (tSeq (tAsg (tLst tNil) (gName 2))
    (tSeq (tAsg (tC (.int 0)) (gName 3))
    (tSeq (tWhile (tTest (tOp rLtI (tVar 3) (tCB cLenStr (tCons (tVar 1) tNil)))) (tSeq (tAsg (tCall sp_p_end_of [] E0 (tCons (tVar 1) (tCons (tVar 3) tNil))) (gName 4))
    (tSeq (tIfS (tTest (tOp rNe (tOp rIxS (tVar 1) (tVar 3)) (tC (.str " ")))) (tSeq (tAsg (tCall (sp_p_word_by K) [] E0 (tCons (tSl rSlS (tVar 1) (tPart (tVar 3)) (tPart (tVar 4))) tNil)) (gName 5))
    (tSeq (tIfS (tB (tIsN (tVar 5))) (tRet (tC .non))
    tNext)
    (tDrop (tBM K "list" rAppend (tVar 2) (tCons (tVar 5) tNil)))))
    tNext)
    (tAsg (tVar 4) (gName 3)))))
    (tRet (tVar 2))))))


/-- L_same -/
def rd_L_same (K : PySem.W.Frag) : TS :=
  (tSeq (tIfS (tB (tIsN (tVar 1))) (tRet (tIsN (tVar 0)))
    tNext)
    (tSeq (tIfS (tOr (tNot (tTru K (tCB (rIsi K) (tCons (tVar 0) (tCons (tC (.ty "list")) tNil))))) (tTest (tOp rNe (tCB (cLenSeq K) (tCons (tVar 0) tNil)) (tCB (cLenSeq K) (tCons (tVar 1) tNil))))) (tRet (tC (.bl false)))
    tNext)
    (tSeq (tFor (iZip K (tCons (tVar 0) (tCons (tVar 1) tNil))) (gTup K 2 (gCons (gName 2) (gCons (gName 3) gNil))) (tIfS (tOr (tNot (tTru K (tCB (rIsi K) (tCons (tVar 2) (tCons (tC (.ty "tuple")) tNil))))) (tOr (tTest (tOp (rNeD K) (tVar 2) (tVar 3))) (tTru K (tCB (rIsi K) (tCons (tOp (rIxT K) (tVar 2) (tC (.int 1))) (tCons (tC (.ty "bool")) tNil)))))) (tRet (tC (.bl false)))
    tNext))
    (tRet (tC (.bl true))))))


/-- L_is -/
def rd_L_is (K : PySem.W.Frag) : TS :=
  (tSeq (tAsg (tCall (sp_is_name K) [] E0 (tCons (tVar 0) tNil)) (gName 1))
    (tSeq (tAsg (tAndT K (tCB (rIsi K) (tCons (tVar 0) (tCons (tC (.ty "str")) tNil))) (tOp (rEqD K) (tCall (sp_L_words K) [] E0 (tCons (tVar 0) tNil)) (tLst (tCons (tTup (tCons (tC (.str "name")) (tCons (tVar 0) tNil))) tNil)))) (gName 2))
    (tRet (tAndT K (tCB (rIsi K) (tCons (tVar 1) (tCons (tC (.ty "bool")) tNil))) (tOp rEq (tVar 1) (tVar 2))))))


/-- law -/
def rd_law (K : PySem.W.Frag) : TS :=
  (tSeq (tFor (iTup K (tTup (tCons (tC (.int 0)) (tCons (tC (.int 31)) tNil)))) (gName 1) (tSeq (tAsg (tCall (sp_L_row K) [] E0 (tCons (tVar 0) (tCons (tVar 1) tNil))) (gName 2))
    (tSeq (tAsg (tCall (sp_L_words K) [] E0 (tCons (tVar 2) tNil)) (gName 3))
    (tFor (iRng1 (tCons (tC (.int 2)) tNil)) (gName 4) (tSeq (tAsg (tCall (sp_words_of K) [] E0 (tCons (tVar 2) tNil)) (gName 5))
    (tSeq (tIfS (tNot (tTru K (tCall (sp_L_same K) [] E0 (tCons (tVar 5) (tCons (tVar 3) tNil))))) (tRet (tC (.bl false)))
    tNext)
    (tIfS (tTru K (tCB (rIsi K) (tCons (tVar 5) (tCons (tC (.ty "list")) tNil)))) (tDrop (tBM K "list" rAppend (tVar 5) (tCons (tTup (tCons (tC (.str "name")) (tCons (tC (.str "more")) tNil))) tNil)))
    tNext)))))))
    (tSeq (tFor (iEnum K (tCons (tOp rCat (tSl (rSlL K) (tVar 0) tNoPart (tPart (tC (.int 63)))) (tLst (tCons (tC (.int 5)) tNil))) tNil)) (gTup K 2 (gCons (gName 6) (gCons (gName 7) gNil))) (tSeq (tAsg (tCall sp_L_mixed [] E0 (tCons (tVar 7) (tCons (tOp rAddI (tC (.int 70)) (tOp rModI (tVar 6) (tC (.int 5)))) tNil))) (gName 8))
    (tSeq (tAsg (tOp (rIxL K) (tLst (tCons (tCall sp_L_name [] E0 (tCons (tOp rDivI (tVar 8) (tC (.int 7))) tNil)) (tCons (tCall sp_L_piece [] E0 (tCons (tOp rDivI (tVar 8) (tC (.int 7))) tNil)) tNil))) (tOp rModI (tVar 8) (tC (.int 2)))) (gName 9))
    (tSeq (tAsg (tOp (rIxL K) (tLst (tCons (tC .non) (tCons (tC (.int 5)) (tCons (tC (.bl true)) (tCons (tLst (tCons (tC (.str "a")) tNil)) (tCons (tTup (tCons (tC (.str "a")) tNil)) (tCons tDNewK (tCons (tC (.str "")) (tCons (tC (.str "a b")) (tCons (tC (.str " a")) (tCons (tC (.str "a ")) (tCons (tC (.str "9")) (tCons (tC (.str "a\n")) tNil))))))))))))) (tOp rModI (tOp rDivI (tVar 8) (tC (.int 2))) (tC (.int 12)))) (gName 10))
    (tIfS (tOr (tNot (tTru K (tCall (sp_L_is K) [] E0 (tCons (tVar 9) tNil)))) (tOr (tNot (tTru K (tCall (sp_L_is K) [] E0 (tCons (tVar 10) tNil)))) (tNot (tTru K (tCall (sp_L_same K) [] E0 (tCons (tCall (sp_words_of K) [] E0 (tCons (tVar 9) tNil)) (tCons (tCall (sp_L_words K) [] E0 (tCons (tVar 9) tNil)) tNil))))))) (tRet (tC (.bl false)))
    tNext)))))
    (tRet (tC (.bl true)))))

section
variable {K : PySem.W.Frag}
def nsL : List Nat := (List.range 26).map (· + 97) ++ (List.range 10).map (· + 48)
theorem ns_str : (Str.ofString "abcdefghijklmnopqrstuvwxyz0123456789" : Str) = S nsL := by decide +kernel
theorem lt_str : (Str.ofString "abcdefghijklmnopqrstuvwxyz" : Str) = S ((List.range 26).map (· + 97)) := by decide +kernel
theorem fg_str : (Str.ofString "0123456789" : Str) = S ((List.range 10).map (· + 48)) := by decide +kernel
theorem mem_rng {c n a : Nat} : c ∈ (List.range n).map (· + a) ↔ a ≤ c ∧ c < n + a := by
  rw [List.mem_map]
  constructor
  · rintro ⟨i, hi, rfl⟩
    rw [List.mem_range] at hi
    omega
  · rintro ⟨h1, h2⟩
    exact ⟨c - a, List.mem_range.mpr (by omega), by omega⟩
theorem in_lt (c : Nat) : decide (c ∈ (Str.ofString "abcdefghijklmnopqrstuvwxyz" : Str).cps.toList) = isL c := by
  rw [lt_str, S_tl]
  unfold isL
  rw [← Bool.decide_and]
  refine decide_eq_decide.mpr ?_
  rw [mem_rng]
  omega
theorem in_fg (c : Nat) : decide (c ∈ (Str.ofString "0123456789" : Str).cps.toList) = isF c := by
  rw [fg_str, S_tl]
  unfold isF
  rw [← Bool.decide_and]
  refine decide_eq_decide.mpr ?_
  rw [mem_rng]
  omega
theorem in_ns (c : Nat) : decide (c ∈ (Str.ofString "abcdefghijklmnopqrstuvwxyz0123456789" : Str).cps.toList) = isNS c := by
  rw [ns_str, S_tl]
  unfold isNS isL isF nsL
  rw [← Bool.decide_and, ← Bool.decide_and, ← Bool.decide_or]
  refine decide_eq_decide.mpr ?_
  rw [List.mem_append, mem_rng, mem_rng]
  omega
theorem one_eq (n : Nat) : (⟨#[n]⟩ : Str) = S [n] := rfl
theorem inS (a : List Nat) (ls : List (List Nat)) : inV (.str (S a)) (ls.map fun l => V.str (S l)) = decide (a ∈ ls) := by
  unfold inV
  induction ls with
  | nil => rfl
  | cons l ls ih =>
    rw [List.map_cons, List.any_cons, ih]
    show ((S l == S a) || _) = _
    by_cases h : l = a
    · rw [h, beq_self_eq_true, Bool.true_or, decide_eq_true (List.mem_cons_self)]
    · rw [beq_eq_false_iff_ne.mpr fun z => h (S_inj z), Bool.false_or]
      refine decide_eq_decide.mpr ⟨fun z => List.mem_cons_of_mem _ z, fun z => ?_⟩
      rcases List.mem_cons.mp z with z | z
      · exact absurd z.symm h
      · exact z
theorem toldV : ([.str "part", .str "in", .str "out", .str "wire", .str "rest", .str "let", .str "use", .str "table", .str "memory", .str "if", .str "then", .str "else", .str "cut", .str "join", .str "fill"] : List V) = toldL.map fun l => V.str (S l) := by decide +kernel
theorem marksV : ([.str ":", .str ",", .str ".", .str "=", .str "==", .str "<", .str "&", .str "|", .str "^", .str "+", .str "-", .str "~", .str "(", .str ")", .str "[", .str "]"] : List V) = marksL.map fun l => V.str (S l) := by decide +kernel
theorem flat_strs (ls : List (List Nat)) : (ls.map fun l => V.str (S l)).all flatV = true := by
  rw [List.all_map]
  exact List.all_eq_true.mpr fun _ _ => rfl
theorem str_dec (a b : List Nat) : decide (V.str (S a) = V.str (S b)) = decide (a = b) := decide_eq_decide.mpr ⟨fun h => S_inj (by injection h), fun h => by rw [h]⟩
theorem S_sz {l : List Nat} (h : l.length ≤ 5000) : (S l).length ≤ sizeLine := by
  rw [S_len]
  exact Nat.le_trans h (by decide)
theorem at_S {l : List Nat} {i c : Nat} (h : l[i]? = some c) : atI (S l).cps.toList (i : Int) = some c := by
  rw [S_tl]
  exact atI_nat h
/-- the run of letters and figures -/
theorem tw_get : ∀ (m : List Nat) (k : Nat) (c : Nat), k ≤ (m.takeWhile isNS).length → m[k]? = some c → (isNS c = true ↔ k < (m.takeWhile isNS).length)
  | [], k, c, _, h => by simp at h
  | d :: r, 0, c, h, e => by
    cases e
    rw [List.takeWhile_cons]
    constructor
    · intro h1
      rw [if_pos h1]
      simp
    · intro h1
      by_cases h2 : isNS d = true
      · exact h2
      · rw [if_neg h2] at h1
        simp at h1
  | d :: r, k + 1, c, h, e => by
    rw [List.takeWhile_cons] at h ⊢
    by_cases h2 : isNS d = true
    · rw [if_pos h2] at h ⊢
      have := tw_get r k c (by simpa using h) e
      rw [this, List.length_cons]
      omega
    · rw [if_neg h2] at h
      simp at h
theorem vr_p_end_of (vs H Q E) (h : sp_p_end_of vs H Q E) : rd_p_end_of { nx := fun _ H' => Q .non H', rt := Q } (start ["text", "at", "end"] vs) H := by
  obtain ⟨l, at_, rfl, hz, ha, q⟩ := h
  have hz' := S_sz hz
  have twl := tw_le (l.drop at_)
  rw [List.length_drop] at twl
  unfold rd_p_end_of
  walk_at "zz"
  refine z_while (fun m σ' H' => ∃ k, m = l.length - (at_ + k) ∧ k ≤ ((l.drop at_).takeWhile isNS).length ∧ σ' = [some (.str (S l)), some (.int (at_ : Int)), some (.int ((at_ + k : Nat) : Int))] ∧ Ex H H') _ ⟨0, rfl, Nat.zero_le _, rfl, Ex.refl H⟩ ?_
  rintro m σ' H' ⟨k, rfl, hk, rfl, e⟩
  have fin : k = ((l.drop at_).takeWhile isNS).length → RetV (.int ((at_ + endSz (l.drop at_) : Nat) : Int)) H Q → tSeq (tIfS (tTest (tOp rGtI (tVar 2) (tVar 1))) (tRet (tVar 2)) tNext) (tSeq (tIfS (tTest (tOp rEq (tSl rSlS (tVar 0) (tPart (tVar 1)) (tPart (tOp rAddI (tVar 1) (tC (.int 2))))) (tC (.str "==")))) (tRet (tOp rAddI (tVar 1) (tC (.int 2)))) tNext) (tRet (tOp rAddI (tVar 1) (tC (.int 1))))) { nx := fun _ H' => Q .non H', rt := Q } [some (.str (S l)), some (.int (at_ : Int)), some (.int ((at_ + k : Nat) : Int))] H' := fun ek q => by
    walk_at "zz"
    by_cases h0 : (l.drop at_).takeWhile isNS ≠ []
    · have : 0 < ((l.drop at_).takeWhile isNS).length := List.length_pos_iff.mpr h0
      refine ite_b (fun _ => ?_) (fun h => absurd (of_decide_eq_false h) (by omega))
      walk_at "zz"
      unfold endSz at q
      rw [if_pos h0, ← ek] at q
      exact q.go e
    · have : ((l.drop at_).takeWhile isNS).length = 0 := by
        rw [Decidable.not_not.mp h0] <;> rfl
      refine ite_b (fun h => absurd (of_decide_eq_true h) (by omega)) (fun _ => ?_)
      walk_at "zz"
      refine z_slS hz' ?_
      walk_at "zz"
      have e2 : (at_ : Int) + 2 = ((at_ + 2 : Nat) : Int) := by omega
      rw [e2, S_cut, cutL_mid, show (Str.ofString "==" : Str) = S [61, 61] by decide +kernel, str_dec, Nat.add_sub_cancel_left]
      unfold endSz at q
      rw [if_neg h0] at q
      refine ite_b (fun h => ?_) (fun h => ?_)
      · walk_at "zz"
        rw [if_pos (of_decide_eq_true h)] at q
        exact q.go e
      · walk_at "zz"
        rw [if_neg (of_decide_eq_false h)] at q
        exact q.go e
  walk_at "zz"
  refine z_lenS hz' ?_
  walk_at "zz"
  rw [S_len]
  by_cases h1 : at_ + k < l.length
  · rw [decide_eq_true (by omega)]
    walk_at "zz"
    have hg : (l.drop at_)[k]? = some (l[at_ + k]) := by rw [List.getElem?_drop, List.getElem?_eq_getElem h1]
    refine z_ixS hz' (at_S (List.getElem?_eq_getElem h1)) ?_
    walk_at "zz"
    refine z_inS ?_
    rw [in_ns]
    have tg := tw_get _ _ _ hk hg
    walk_at "zz"
    by_cases h2 : isNS l[at_ + k] = true
    · rw [h2]
      refine ite_t ⟨_, fun _ _ h => h, ?_⟩
      walk_at "zz"
      exact ⟨l.length - (at_ + (k + 1)), by omega, k + 1, rfl, tg.mp h2, rfl, e⟩
    · rw [Bool.eq_false_iff.mpr h2]
      refine ite_f ?_
      exact fin (by have := mt tg.mpr h2; omega) q
  · rw [decide_eq_false (by omega)]
    refine ite_f (ite_f ?_)
    exact fin (by omega) q
theorem kitN {U : String} {T : String} (h : T ∈ (["bool", "NoneType", "int", "list", "tuple", "dict"] : List String)) (hu : U = "str") : PySem.W.kitOne K (.type T) (.type U) = some false := by
  simp only [List.mem_cons, List.not_mem_nil, or_false] at h
  subst hu
  rcases h with rfl | rfl | rfl | rfl | rfl | rfl <;> exact kit_ty (by decide +kernel)
theorem odd_ty {H : Hp} {v : V} (h : Odd H v) : ∃ T, TyX K H v (.type T) ∧ T ∈ (["bool", "NoneType", "int", "list", "tuple", "dict"] : List String) := by
  rcases h with ⟨b, rfl⟩ | rfl | ⟨i, rfl⟩ | ⟨a, rfl, ⟨xs, h⟩ | ⟨xs, h⟩ | ⟨xs, h⟩⟩
  · exact ⟨"bool", .base (.bl b), by decide⟩
  · exact ⟨"NoneType", .base .non, by decide⟩
  · exact ⟨"int", .base (.int i), by decide⟩
  · exact ⟨"list", .base (.lst h), by decide⟩
  · exact ⟨"tuple", .base (.tup h), by decide⟩
  · exact ⟨"dict", .base (.dK h), by decide⟩
theorem isi_str {H : Hp} {v : V} {b : Bool} {Q : VK} (h : Thing H v b) (q1 : ∀ l, v = .str (S l) → l.length ≤ 5000 → b = nameOk l → Q (.bl true) H) (q2 : Odd H v → b = false → Q (.bl false) H) : rIsi K [v, .ty "str"] H Q := by
  rcases h with ⟨l, rfl, hl, hb⟩ | ⟨ho, hb⟩
  · exact z_isi (T := "str") (b := true) (.base (.str _)) (kit_ty (by decide +kernel)) (q1 l rfl hl hb)
  · obtain ⟨T, ty, hT⟩ := odd_ty (K := K) ho
    exact z_isi (T := T) (b := false) ty (kitN hT rfl) (q2 ho hb)
/-- all of a text's signs -/
theorem given_all (n : Nat) (v : Nat → V) : Evl.given n (fun _ => true) v = (List.range n).map v := by
  unfold Evl.given
  rw [List.filter_eq_self.mpr (fun _ _ => rfl)]
theorem range_get {α β : Type} (l : List α) (d : α) (f : α → β) : (List.range l.length).map (fun i => f (l.getD i d)) = l.map f := by
  refine List.ext_getElem (by simp) fun i h1 h2 => ?_
  simp at h1
  simp [h1]
theorem z_allS {σ : L2.St} {H : Hp} {Q : VK} {l : List Nat} {f : Nat → Bool} {te : TE} {j : Nat} (hz : l.length ≤ 5000) (hw : ∀ x : V, wipe ((wipe σ [j]).set j (some x)) [j] = wipe σ [j])
    (he : ∀ c H', Ex H H' → Evl.Ev te ((wipe σ [j]).set j (some (.str ⟨#[c]⟩))) H' (.bl (f c))) (q : RetV (.bl (l.all f)) H Q) : CS (gName j) tYes te [j] σ (.str (S l)) H (fun x H1 => tNil σ H1 fun xs H2 => rAll K (x :: xs) H2 Q) := by
  refine z_CS (by rw [S_size]; omega) (fun _ => true) (fun i => .bl (f (l.getD i 0))) hw (fun i c H' hi hc e => fun H2 e2 Q' q' => q' _ (Ex.refl _)) (fun i c H' hi hc e _ => ?_) (fun p H1 hp e1 h1 => ?_)
  · have : l.getD i 0 = c := by
      rw [S_get] at hc
      rw [List.getD_eq_getElem?_getD, hc] <;> rfl
    rw [this]
    exact he c H' e
  · rw [S_size, given_all, range_get l 0 fun c => V.bl (f c)] at h1
    refine z_nil ⟨p, l.map f, rfl, ?_, ?_⟩
    · rw [List.map_map]
      exact sq_of h1
    · rw [List.all_map]
      exact q.go e1
theorem vr_is_name (q_TOLD_WORDS : ∀ H : Hp, SqT K H (He.ga K "TOLD_WORDS") [.str "part", .str "in", .str "out", .str "wire", .str "rest", .str "let", .str "use", .str "table", .str "memory", .str "if", .str "then", .str "else", .str "cut", .str "join", .str "fill"]) (vs H Q E) (h : sp_is_name K vs H Q E) : (rd_is_name K) { nx := fun _ H' => Q .non H', rt := Q } (start ["thing", "sign"] vs) H := by
  obtain ⟨v, b, rfl, hv, q⟩ := h
  unfold rd_is_name
  walk_at "zz"
  refine isi_str hv (fun l hvl hl hb => ?_) (fun ho hb => ?_)
  rotate_left
  · subst hb
    walk_at "zz"
    refine ite_b (fun _ => ?_) (fun h => absurd h (by decide))
    walk_at "zz"
    exact q.go (Ex.refl H)
  subst hvl hb
  have hz' := S_sz hl
  walk_at "zz"
  refine ite_b (fun h => absurd h (by decide)) (fun _ => ?_)
  walk_at "zz"
  refine z_lenS hz' ?_
  walk_at "zz"
  rw [S_len]
  by_cases h1 : 1 ≤ l.length
  rotate_left
  · rw [decide_eq_false (by omega)]
    walk_at "zz"
    refine ite_b (fun _ => ?_) (fun h => absurd h (by decide))
    walk_at "zz"
    have : nameOk l = false := by
      unfold nameOk
      rw [decide_eq_false h1]
      simp
    rw [this] at q
    exact q.go (Ex.refl H)
  rw [decide_eq_true (by omega)]
  walk_at "zz"
  by_cases h2 : l.length ≤ 8
  rotate_left
  · rw [decide_eq_false (by omega)]
    walk_at "zz"
    refine ite_b (fun _ => ?_) (fun h => absurd h (by decide))
    walk_at "zz"
    have : nameOk l = false := by
      unfold nameOk
      rw [decide_eq_false h2]
      simp
    rw [this] at q
    exact q.go (Ex.refl H)
  rw [decide_eq_true (by omega)]
  walk_at "zz"
  refine ite_b (fun h => absurd h (by decide)) (fun _ => ?_)
  obtain ⟨c, r, rfl⟩ : ∃ c r, l = c :: r := by
    cases l with
    | nil => simp at h1
    | cons c r => exact ⟨c, r, rfl⟩
  walk_at "zz"
  refine z_ixS hz' (at_S (i := 0) (c := c) rfl) ?_
  walk_at "zz"
  refine z_ninS ?_
  rw [in_lt]
  walk_at "zz"
  refine ite_b (fun h => ?_) (fun h => ?_)
  · walk_at "zz"
    have lc : isL ((c :: r).headD 0) = false := by
      show isL c = false
      simpa using h
    have : nameOk (c :: r) = false := by
      unfold nameOk
      rw [lc]
      simp
    rw [this] at q
    exact q.go (Ex.refl H)
  have lc : isL ((c :: r).headD 0) = true := by
    show isL c = true
    simpa using h
  walk_at "zz"
  have hq := q_TOLD_WORDS H
  rw [toldV] at hq
  refine z_inT hq rfl (flat_strs _) ?_
  rw [inS]
  walk_at "zz"
  refine ite_b (fun h => ?_) (fun h => ?_)
  · walk_at "zz"
    have : nameOk (c :: r) = false := by
      unfold nameOk
      rw [show decide (c :: r ∈ toldL) = true from h]
      simp
    rw [this] at q
    exact q.go (Ex.refl H)
  have hn : decide (c :: r ∈ toldL) = false := h
  walk_at "zz"
  refine z_allS (f := isNS) hl (fun _ => rfl) (fun d H' e => fun H2 e2 Q' q' => ?_) ?_
  · walk_at "zz"
    refine z_inS ?_
    rw [in_ns]
    exact q' _ (Ex.refl _)
  · have : nameOk (c :: r) = (c :: r).all isNS := by
      unfold nameOk
      rw [lc, hn, decide_eq_true h1, decide_eq_true h2] <;> rfl
    rw [this] at q
    exact q
theorem fig_all {l : List Nat} (h : l.all isF = true) : NumText.AllDigits l := fun c hc => by
  have := List.all_eq_true.mp h c hc
  unfold isF at this
  simp at this
  omega
theorem int_S {l : List Nat} (h : l.all isF = true) (hn : l ≠ []) (hl : l.length ≤ 640) : PySem.intText? (S l) = some (nv l) := by
  have := intText_digits (x := S l) (by rw [S_tl]; exact fig_all h) (by rw [S_tl]; exact hn) (by rw [S_len]; omega)
  rw [S_tl] at this
  exact this
theorem vr_number_by (vs H Q E) (h : sp_number_by vs H Q E) : (rd_number_by K) { nx := fun _ H' => Q .non H', rt := Q } (start ["text", "sign"] vs) H := by
  obtain ⟨l, rfl, hne, hl, q⟩ := h
  have hz' := S_sz hl
  unfold rd_number_by
  obtain ⟨c, r, rfl⟩ : ∃ c r, l = c :: r := by
    cases l with
    | nil => exact absurd rfl hne
    | cons c r => exact ⟨c, r, rfl⟩
  have e0 : (Str.ofString "0" : Str) = S [48] := by decide +kernel
  walk_at "zz"
  refine z_lenS hz' ?_
  walk_at "zz"
  rw [S_len]
  have l1 : 1 ≤ (c :: r).length := by simp
  rw [decide_eq_true (by omega)]
  walk_at "zz"
  have no : ∀ z : badNum (c :: r), Q .non H := fun z => by
    have : numOk (c :: r) = false := by
      unfold numOk
      rw [decide_eq_true z]
      simp
    rw [this] at q
    exact q.go (Ex.refl H)
  have last : ¬ badNum (c :: r) → tRet (tIf (tTru K (tCB (rAll K) (tCons (tLc (iStr (tVar 0)) (gName 1) tYes (tOp rInSgn (tVar 1) (tC (.str "0123456789"))) [1]) tNil))) (tCB cIntStr (tCons (tVar 0) tNil)) (tC .non)) { nx := fun _ H' => Q .non H', rt := Q } [some (.str (S (c :: r))), none] H := fun nb => by
    have en : numOk (c :: r) = (c :: r).all isF := by
      unfold numOk
      rw [decide_eq_false nb] <;> rfl
    have h20 : (c :: r).length ≤ 20 := Nat.not_lt.mp fun z => nb (.inl z)
    rw [en] at q
    walk_at "zz"
    refine z_allS (f := isF) hl (fun _ => rfl) (fun d H' e => fun H2 e2 Q' q' => ?_) ?_
    · walk_at "zz"
      refine z_inS ?_
      rw [in_fg]
      exact q' _ (Ex.refl _)
    · intro H1 e1
      walk_at "zz"
      refine ite_b (fun h => ?_) (fun h => ?_)
      · walk_at "zz"
        rw [if_pos h] at q
        exact ⟨_, nv (c :: r), rfl, int_S h hne (by omega), by rw [S_len]; omega, q.go e1⟩
      · walk_at "zz"
        rw [if_neg (by rw [h]; decide)] at q
        exact q.go e1
  by_cases h20 : (c :: r).length ≤ 20
  rotate_left
  · rw [decide_eq_false (by omega)]
    walk_at "zz"
    refine ite_b (fun _ => ?_) (fun h => absurd h (by decide))
    walk_at "zz"
    exact no (.inl (by omega))
  rw [decide_eq_true (by omega)]
  walk_at "zz"
  refine ite_b (fun h => absurd h (by decide)) (fun _ => ?_)
  walk_at "zz"
  refine z_ixS hz' (at_S (i := 0) (c := c) rfl) ?_
  walk_at "zz"
  rw [one_eq, e0, str_dec]
  refine ite_b (fun h => ?_) (fun h => ?_)
  · have hc : c = 48 := by
      have := of_decide_eq_true h
      injection this
    walk_at "zz"
    rw [str_dec]
    refine ite_b (fun h2 => ?_) (fun h2 => ?_)
    · walk_at "zz"
      exact no (.inr ⟨by rw [hc] <;> rfl, fun z => by rw [decide_eq_true z] at h2; cases h2⟩)
    · refine last fun z => ?_
      rcases z with z | z
      · omega
      · exact z.2 (by simpa using h2)
  · refine ite_f (last fun z => ?_)
    rcases z with z | z
    · omega
    · refine of_decide_eq_false h ?_
      have := Option.some.inj z.1
      rw [show c = 48 from this]
theorem vr_p_word_by (q_MARKS : ∀ H : Hp, SqT K H (He.ga K "MARKS") [.str ":", .str ",", .str ".", .str "=", .str "==", .str "<", .str "&", .str "|", .str "^", .str "+", .str "-", .str "~", .str "(", .str ")", .str "[", .str "]"]) (q_TOLD_WORDS : ∀ H : Hp, SqT K H (He.ga K "TOLD_WORDS") [.str "part", .str "in", .str "out", .str "wire", .str "rest", .str "let", .str "use", .str "table", .str "memory", .str "if", .str "then", .str "else", .str "cut", .str "join", .str "fill"]) (vs H Q E) (h : sp_p_word_by K vs H Q E) : (rd_p_word_by K) { nx := fun _ H' => Q .non H', rt := Q } (start ["text", "number"] vs) H := by
  obtain ⟨l, I, rfl, eI, hne, hl, q⟩ := h
  unfold rd_p_word_by
  walk_at "zz"
  have hq := q_TOLD_WORDS H
  rw [toldV] at hq
  refine z_inT hq rfl (flat_strs _) ?_
  rw [inS]
  walk_at "zz"
  unfold wordBy at q
  refine ite_b (fun h => ?_) (fun h => ?_)
  · walk_at "zz"
    refine ⟨szl (by simp), fun p hp => ?_⟩
    rw [if_pos (of_decide_eq_true h)] at q
    exact RetD.tup q eI hp (.cons (.str _) (.cons (.str _) .nil))
  rw [if_neg (of_decide_eq_false h)] at q
  walk_at "zz"
  have hq := q_MARKS H
  rw [marksV] at hq
  refine z_inT hq rfl (flat_strs _) ?_
  rw [inS]
  walk_at "zz"
  refine ite_b (fun h => ?_) (fun h => ?_)
  · walk_at "zz"
    refine ⟨szl (by simp), fun p hp => ?_⟩
    rw [if_pos (of_decide_eq_true h)] at q
    exact RetD.tup q eI hp (.cons (.str _) (.cons (.str _) .nil))
  rw [if_neg (of_decide_eq_false h)] at q
  walk_at "zz"
  refine ⟨_, _, rfl, .inl ⟨l, rfl, hl, rfl⟩, fun H1 e1 => ?_⟩
  walk_at "zz"
  refine ite_b (fun h => ?_) (fun h => ?_)
  · walk_at "zz"
    refine ⟨szl (by simp), fun p hp => ?_⟩
    rw [if_pos h] at q
    have q' : RetD K (pd (.name l)) I H1 Q := fun v J H' a b c d f => q v J H' a (e1.trans b) c (fun a o ha hI => d a o (e1 a o ha) hI) f
    exact RetD.tup q' (eI.trans e1) hp (.cons (.str _) (.cons (.str _) .nil))
  rw [if_neg (by rw [h]; decide)] at q
  walk_at "zz"
  refine ⟨l, rfl, hne, hl, fun H2 e2 => ?_⟩
  by_cases h : numOk l = true
  · rw [if_pos h]
    walk_at "zz"
    refine ite_b (fun h => absurd (of_decide_eq_true h) (by intro z; cases z)) (fun _ => ?_)
    walk_at "zz"
    refine ⟨szl (by simp), fun p hp => ?_⟩
    rw [if_pos h] at q
    have q' : RetD K (pd (.num l)) I H2 Q := fun v J H' a b c d f => q v J H' a ((e1.trans e2).trans b) c (fun a o ha hI => d a o ((e1.trans e2) a o ha) hI) f
    exact RetD.tup q' ((eI.trans e1).trans e2) hp (.cons (.str _) (.cons (.int _) .nil))
  rw [if_neg h]
  rw [if_neg h] at q
  walk_at "zz"
  refine ite_b (fun _ => ?_) (fun h => absurd (show decide (V.non = V.non) = true from decide_eq_true rfl) (by rw [h]; decide))
  walk_at "zz"
  exact RetV.go q (e1.trans e2)
/-- what a step tells of the size of a word -/
theorem step_sz {c : Nat} {r : List Nat} (h1 : c ≠ 35) (h2 : c ≠ 32) : M03.step (c :: r) = match wordBy ((c :: r).take (endSz (c :: r))) with
    | none => .bad
    | some w => .word w ((c :: r).drop (endSz (c :: r))) := by
  rw [M03.step, if_neg h1, if_neg h2]
  unfold endSz
  by_cases h3 : (c :: r).takeWhile isNS ≠ []
  · rw [if_pos h3, if_pos h3]
    have et : (c :: r).take ((c :: r).takeWhile isNS).length = (c :: r).takeWhile isNS := List.prefix_iff_eq_take.mp (List.takeWhile_prefix _) |>.symm
    rw [et, run_by h3 (tw_ns _)] <;> rfl
  rw [if_neg h3, if_neg h3]
  have hc : isNS c = false := by
    by_cases h : isNS c = true
    · exact absurd (by rw [List.takeWhile_cons, if_pos h]; simp) h3
    · exact Bool.eq_false_iff.mpr h
  by_cases h4 : c = 61 ∧ r.head? = some 61
  · obtain ⟨rfl, h42⟩ := h4
    cases r with
    | nil => cases h42
    | cons d r =>
      have hd : d = 61 := Option.some.inj h42
      subst hd
      rw [if_pos ⟨rfl, rfl⟩]
      have : (61 :: 61 :: r).take 2 = [61, 61] := rfl
      rw [if_pos this]
      rfl
  have h4' : ¬ (c :: r).take 2 = [61, 61] := fun z => h4 (by
    cases r with
    | nil => cases z
    | cons d r =>
      injection z with z1 z2
      injection z2 with z2 _
      exact ⟨z1, by rw [z2] <;> rfl⟩)
  rw [if_neg h4, if_neg h4']
  show _ = match wordBy [c] with
    | none => M03.Step.bad
    | some w => M03.Step.word w r
  rw [one_by hc]
  by_cases h5 : c ∈ marks1
  · rw [if_pos h5, if_pos h5]
  · rw [if_neg h5, if_neg h5]
theorem endSz_pos (m : List Nat) (h : m ≠ []) : 1 ≤ endSz m := by
  unfold endSz
  by_cases h3 : m.takeWhile isNS ≠ []
  · rw [if_pos h3]
    exact List.length_pos_iff.mpr h3
  · rw [if_neg h3]
    split <;> omega
theorem endSz_le (m : List Nat) (h : m ≠ []) : endSz m ≤ m.length := by
  unfold endSz
  by_cases h3 : m.takeWhile isNS ≠ []
  · rw [if_pos h3]
    exact tw_le m
  · rw [if_neg h3]
    split
    · rename_i h4
      have := congrArg List.length h4
      rw [List.length_take] at this
      simp at this
      omega
    · exact List.length_pos_iff.mpr h
theorem endSz_blank (r : List Nat) : endSz (32 :: r) = 1 := by
  unfold endSz
  rw [if_neg (by rw [List.takeWhile_cons]; simp [isNS, isL, isF]), if_neg (by
    cases r <;> simp)]
/-- the part ahead of a remark -/
def ahead (l : List Nat) : List Nat := l.takeWhile fun c => c != 35
theorem ahead_no (l : List Nat) : 35 ∉ ahead l := fun h => by
  have g : ∀ m : List Nat, 35 ∉ m.takeWhile fun c => c != 35 := fun m => by
    induction m with
    | nil => simp
    | cons c r ih =>
      rw [List.takeWhile_cons]
      split
      · rename_i hc
        intro z
        rcases List.mem_cons.mp z with z | z
        · rw [← z] at hc
          simp at hc
        · exact ih z
      · simp
  exact g l h
theorem ahead_len (l : List Nat) : (ahead l).length ≤ l.length := List.Sublist.length_le (List.takeWhile_sublist _)
theorem ahead_words (l : List Nat) : words l = words (ahead l) := by
  have h := List.takeWhile_append_dropWhile (p := fun c => c != 35) (l := l)
  cases e : l.dropWhile (fun c => c != 35) with
  | nil =>
    rw [e, List.append_nil] at h
    rw [ahead, h]
  | cons d r =>
    have hd : d = 35 := by
      have := List.head?_dropWhile_not (fun c => c != 35) l
      rw [e] at this
      simpa using this
    subst hd
    rw [e] at h
    conv => lhs; rw [← h]
    exact words_cut r _ _ (Nat.le_refl _) (ahead_no l)
theorem part_S (l : List Nat) : (Txt.partition (S l) (Str.ofString "#")).1 = S (ahead l) := by
  have e0 : (Str.ofString "#" : Str) = S [35] := by decide +kernel
  rw [e0]
  have h := List.takeWhile_append_dropWhile (p := fun c => c != 35) (l := l)
  have na : 35 ∉ TL.tl (S (ahead l)) := by
    show 35 ∉ (S (ahead l)).cps.toList
    rw [S_tl]
    exact ahead_no l
  cases e : l.dropWhile (fun c => c != 35) with
  | nil =>
    rw [e, List.append_nil] at h
    have ea : ahead l = l := h
    rw [ea] at na ⊢
    rw [TL.partition_none (s := 35) (S := []) rfl na]
  | cons d r =>
    have hd : d = 35 := by
      have := List.head?_dropWhile_not (fun c => c != 35) l
      rw [e] at this
      simpa using this
    subst hd
    rw [e] at h
    have es : S l = S (ahead l) ++ S [35] ++ S r := by
      rw [S_app, S_app, List.append_assoc]
      conv => lhs; rw [← h]
      rfl
    rw [es, TL.partition_app (s := 35) (S := []) rfl na]
theorem RetW.none_of {r : Option (List Wd)} {H H' : Hp} {Q : VK} (q : RetW K r H Q) (h : r = none) (e : Ex H H') : Q .non H' := by
  subst h
  exact RetV.go q e
theorem map_app (ws : List Wd) (w : Wd) (r : Option (List Wd)) : (r.map (w :: ·)).map (ws ++ ·) = r.map ((ws ++ [w]) ++ ·) := by
  cases r with
  | none => rfl
  | some us => simp
/-- the words so far, in a list that what is known doesn't know -/
def SoFar (K : PySem.W.Frag) (H : Hp) (p : Addr) (ws : List Wd) (H' : Hp) : Prop := ∃ xs Hb, Ex H Hb ∧ Hb p = none ∧ Ex Hb H' ∧ H' p = some (.lst xs) ∧ DpAll K Hb xs (ws.map pd)
theorem SoFar.ex {H H' : Hp} {p : Addr} {ws : List Wd} (h : SoFar K H p ws H') : Ex H H' := by
  obtain ⟨xs, Hb, e1, _, e2, _⟩ := h
  exact e1.trans e2
theorem SoFar.grow {H H' H2 : Hp} {p : Addr} {ws : List Wd} (h : SoFar K H p ws H') (e : Ex H' H2) : SoFar K H p ws H2 := by
  obtain ⟨xs, Hb, e1, hp, e2, hx, hd⟩ := h
  exact ⟨xs, Hb, e1, hp, e2.trans e, e _ _ hx, hd⟩
/-- one more -/
theorem SoFar.more {H Hb J H1 : Hp} {p : Addr} {ws : List Wd} {w : Wd} {xs : List V} {v : V} (e1 : Ex H Hb) (e2 : Ex Hb J) (hJ : J p = none) (e3 : Ex J H1) (hx : H1 p = some (.lst xs)) (hd : DpAll K Hb xs (ws.map pd)) (hv : Dp K J v (pd w)) : SoFar K H p (ws ++ [w]) (upd H1 p (.lst (xs ++ [v]))) := by
  refine ⟨xs ++ [v], J, e1.trans e2, hJ, Ex.mut e3 hJ, upd_same, ?_⟩
  rw [List.map_append]
  exact dpAll_app (dpAll_mono e2 hd) (.cons hv .nil)
theorem SoFar.done {H H' : Hp} {p : Addr} {ws : List Wd} {Q : VK} (h : SoFar K H p ws H') (hp : H p = none) (q : RetLD K (ws.map pd) H Q) : Q (.ref p) H' := by
  obtain ⟨xs, Hb, e1, _, e2, hx, hd⟩ := h
  exact q p xs H' hp (e1.trans e2) hx (dpAll_mono e2 hd)
theorem words_len : ∀ (n : Nat) (l : List Nat) (ws : List Wd), l.length ≤ n → words l = some ws → ws.length ≤ l.length
  | n, [], ws, _, h => by
    rw [words_stop rfl] at h
    cases h
    simp
  | 0, c :: r, ws, h, _ => by simp at h
  | n + 1, c :: r, ws, hl, h => by
    cases hs : M03.step (c :: r) with
    | stop =>
      rw [words_stop hs] at h
      cases h
      simp
    | bad =>
      rw [words_bad hs] at h
      cases h
    | skip t =>
      rw [words_skip hs] at h
      have l1 := step_less _ _ (.inl hs)
      have := words_len n t ws (by simp at *; omega) h
      omega
    | word w t =>
      rw [words_word hs] at h
      have l1 := step_less _ _ (.inr ⟨w, hs⟩)
      cases ht : words t with
      | none =>
        rw [ht] at h
        cases h
      | some us =>
        rw [ht] at h
        cases h
        have := words_len n t us (by simp at *; omega) ht
        rw [List.length_cons]
        omega
theorem vr_words_of (vs H Q E) (h : sp_words_of K vs H Q E) : (rd_words_of K) { nx := fun _ H' => Q .non H', rt := Q } (start ["row", "text", "words", "at", "end", "word"] vs) H := by
  obtain ⟨l, rfl, hl, q⟩ := h
  rw [ahead_words] at q
  have al := ahead_len l
  unfold rd_words_of
  walk_at "zz"
  refine ⟨_, _, rfl, rfl, by decide +kernel, S_sz hl, fun p0 hp0 => ?_⟩
  walk_at "zz"
  refine z_ixT (st_of upd_same) (v := .str (S (ahead l))) (by rw [part_S]; rfl) ?_
  have e0 : Ex H (upd H p0 (HO.tup [V.str (Txt.partition (S l) (Str.ofString "#")).1, V.str (Txt.partition (S l) (Str.ofString "#")).2.1, V.str (Txt.partition (S l) (Str.ofString "#")).2.2])) := Ex.new hp0
  generalize (upd H p0 (HO.tup [V.str (Txt.partition (S l) (Str.ofString "#")).1, V.str (Txt.partition (S l) (Str.ofString "#")).2.1, V.str (Txt.partition (S l) (Str.ofString "#")).2.2])) = H0 at e0 ⊢
  have nr := ahead_no l
  generalize ahead l = t at q al nr ⊢
  have ht : t.length ≤ 5000 := by omega
  have hz' := S_sz ht
  walk_at "zz"
  refine ⟨szl (by simp), fun p hp => ?_⟩
  walk_at "zz"
  refine z_while (fun m σ' H' => ∃ k ws y4 y5, m = t.length - k ∧ k ≤ t.length ∧ σ' = [some (.str (S l)), some (.str (S t)), some (.ref p), some (.int (k : Int)), y4, y5] ∧ SoFar K H0 p ws H' ∧ words t = (words (t.drop k)).map (ws ++ ·) ∧ ws.length ≤ k) _ ⟨0, [], none, none, rfl, Nat.zero_le _, rfl, ⟨[], H0, Ex.refl _, hp, Ex.new hp, upd_same, .nil⟩, by rw [List.drop_zero]; cases words t <;> rfl, Nat.le_refl _⟩ ?_
  rintro m σ' H' ⟨k, ws, y4, y5, rfl, hk, rfl, hs, hw, hwl⟩
  walk_at "zz"
  refine z_lenS hz' ?_
  walk_at "zz"
  rw [S_len]
  by_cases hkt : k < t.length
  rotate_left
  · rw [decide_eq_false (by omega)]
    refine ite_f ?_
    walk_at "zz"
    have : t.drop k = [] := List.drop_eq_nil_of_le (by omega)
    rw [this, words_stop (l := []) rfl] at hw
    rw [hw] at q
    have ep : H p = none := fresh_back e0 hp
    refine hs.done hp ?_
    show RetLD K (ws.map pd) H0 Q
    have q' : RetLD K ((ws ++ []).map pd) H Q := q
    rw [List.append_nil] at q'
    exact fun p xs H2 a b c d => q' p xs H2 (fresh_back e0 a) (e0.trans b) c d
  rw [decide_eq_true (by omega)]
  refine ite_t ?_
  refine ⟨fun σ' H' => ∃ k' ws y4 y5, k < k' ∧ k' ≤ t.length ∧ σ' = [some (.str (S l)), some (.str (S t)), some (.ref p), some (.int (k' : Int)), y4, y5] ∧ SoFar K H0 p ws H' ∧ words t = (words (t.drop k')).map (ws ++ ·) ∧ ws.length ≤ k', fun σ' H' ⟨k', ws, y4, y5, h1, h2, h3, h4, h5, h6⟩ => ⟨t.length - k', by omega, k', ws, y4, y5, rfl, h2, h3, h4, h5, h6⟩, ?_⟩
  walk_at "zz"
  refine ⟨t, k, rfl, ht, hkt, fun H1 e1 => ?_⟩
  obtain ⟨c, r, hcr⟩ : ∃ c r, t.drop k = c :: r := by
    cases h : t.drop k with
    | nil =>
      have := congrArg List.length h
      rw [List.length_drop] at this
      simp at this
      omega
    | cons c r => exact ⟨c, r, rfl⟩
  have hc0 : t[k]? = some c := by
    have : (t.drop k)[0]? = some c := by rw [hcr] <;> rfl
    rw [List.getElem?_drop] at this
    exact this
  have nc : c ≠ 35 := fun z => nr (by rw [← z]; exact List.mem_of_getElem? hc0)
  have sp1 := endSz_pos (t.drop k) (by rw [hcr]; simp)
  have sp2 := endSz_le (t.drop k) (by rw [hcr]; simp)
  rw [List.length_drop] at sp2
  walk_at "zz"
  refine z_ixS hz' (at_S hc0) ?_
  walk_at "zz"
  rw [one_eq, show (Str.ofString " " : Str) = S [32] by decide +kernel, str_dec]
  refine ite_b (fun h => ?_) (fun h => ?_)
  · have n32 : c ≠ 32 := fun z => by
      rw [z, decide_eq_true rfl] at h
      cases h
    have hst := step_sz (r := r) nc n32
    rw [← hcr] at hst
    walk_at "zz"
    refine z_slS hz' ?_
    rw [S_cut, cutL_mid, Nat.add_sub_cancel_left]
    obtain ⟨xs, Hb, x1, x2, x3, x4, x5⟩ := hs.grow e1
    have tl : ((t.drop k).take (endSz (t.drop k))).length = endSz (t.drop k) := by
      rw [List.length_take, List.length_drop]
      omega
    refine ⟨_, Hb, rfl, x3, fun z => ?_, by omega, ?_⟩
    · rw [z] at tl
      simp at tl
      omega
    · unfold RetO
      cases hwb : wordBy ((t.drop k).take (endSz (t.drop k))) with
      | none =>
        rw [hwb] at hst
        refine fun H2 e2 => ?_
        walk_at "zz"
        refine ite_b (fun _ => ?_) (fun h => absurd h (by decide))
        walk_at "zz"
        rw [words_bad hst] at hw
        exact RetW.none_of q hw (((e0.trans x1).trans x3).trans e2)
      | some w =>
        rw [hwb] at hst
        refine fun v J H2 j1 j2 j3 j4 j5 => ?_
        obtain ⟨a, rfl⟩ : ∃ a, v = .ref a := by
          cases w <;> cases j5 <;> exact ⟨_, rfl⟩
        walk_at "zz"
        refine ite_b (fun h => absurd h (by simp)) (fun _ => ?_)
        walk_at "zz"
        refine z_tyl (sq_of (j2 _ _ x4)) ?_
        walk_at "zz"
        have xl := dpAll_len x5
        rw [List.length_map] at xl
        refine z_rapp (j2 _ _ x4) (Nat.lt_of_le_of_lt (by omega : xs.length ≤ 5000) (by decide)) ?_
        walk_at "zz"
        refine ⟨k + endSz (t.drop k), ws ++ [w], _, _, by omega, by omega, rfl, SoFar.more x1 j1 (j4 p _ x4 x2) j3 (j2 _ _ x4) x5 j5, ?_, by rw [List.length_append]; simp; omega⟩
        rw [hw, words_word hst, map_app, List.drop_drop]
  · have e32 : c = 32 := by
      have h' : decide ([c] = [32]) = true := by simpa using h
      have := of_decide_eq_true h'
      injection this
    subst e32
    have hst : M03.step (t.drop k) = .skip r := by
      rw [hcr, M03.step, if_neg (by decide), if_pos rfl]
    have es : endSz (t.drop k) = 1 := by rw [hcr, endSz_blank]
    walk_at "zz"
    rw [es]
    refine ⟨k + 1, ws, _, _, by omega, by omega, rfl, hs.grow e1, ?_, by omega⟩
    have er : t.drop (k + 1) = r := by
      rw [← List.drop_drop, hcr] <;> rfl
    rw [hw, words_skip hst, er]
theorem vr_L_mixed (vs H Q E) (h : sp_L_mixed vs H Q E) : rd_L_mixed { nx := fun _ H' => Q .non H', rt := Q } (start ["_law_cell_here", "_law_k", "_law_number"] vs) H := by
  obtain ⟨c, k, rfl, hk, q⟩ := h
  unfold rd_L_mixed
  walk_at "zz"
  exact RetV.go q (Ex.refl H)
theorem mixd_b (c k : Int) : 0 ≤ mixd c k ∧ mixd c k < 2147483629 := ⟨Int.emod_nonneg _ (by decide), Int.emod_lt_of_pos _ (by decide)⟩
theorem vr_L_signs (vs H Q E) (h : sp_L_signs vs H Q E) : rd_L_signs { nx := fun _ H' => Q .non H', rt := Q } (start ["_law_some"] vs) H := by
  obtain ⟨_, rfl, q⟩ := h
  unfold rd_L_signs
  walk_at "zz"
  refine z_addS (szl (by decide +kernel)) ?_
  rw [show (Str.ofString " !\"#$&'()*+,-./0123456789:;<=>?@ABCDEFGHIJKLMNOPQRSTUVWXYZ[\\]^_" : Str) ++ Str.ofString "`abcdefghijklmnopqrstuvwxyz{|}~" = S signsL by decide +kernel]
  exact RetV.go q (Ex.refl H)
theorem vr_L_told (vs H Q E) (h : sp_L_told vs H Q E) : (rd_L_told K) { nx := fun _ H' => Q .non H', rt := Q } (start [] vs) H := by
  obtain ⟨_, rfl, q⟩ := h
  unfold rd_L_told
  walk_at "zz"
  refine ⟨_, _, rfl, rfl, by decide +kernel, by decide +kernel, fun p hp => ?_⟩
  rw [show (Txt.split (Str.ofString "part in out wire rest let use table memory if then else cut join fill") (Str.ofString " ")).map V.str = toldL.map fun l => V.str (S l) by decide +kernel]
  exact q p _ hp (Ex.new hp) upd_same
theorem given_len_iff (n : Nat) (f : Nat → Bool) (v : Nat → V) : (Evl.given n f v).length = n ↔ ∀ i, i < n → f i = true := by
  unfold Evl.given
  rw [List.length_map]
  have := List.length_filter_eq_length_iff (p := f) (l := List.range n)
  rw [List.length_range] at this
  rw [this]
  exact ⟨fun h i hi => h i (List.mem_range.mpr hi), fun h i hi => h i (List.mem_range.mp hi)⟩
theorem vr_L_run (vs H Q E) (h : sp_L_run K vs H Q E) : (rd_L_run K) { nx := fun _ H' => Q .non H', rt := Q } (start ["_law_run_here", "_law_figures", "_law_sign"] vs) H := by
  obtain ⟨l, I, rfl, eI, hne, hl, q⟩ := h
  have hz' := S_sz hl
  obtain ⟨c, r, rfl⟩ : ∃ c r, l = c :: r := by
    cases l with
    | nil => exact absurd rfl hne
    | cons c r => exact ⟨c, r, rfl⟩
  unfold rd_L_run
  walk_at "zz"
  refine ⟨(), rfl, fun p1 H1 hp1 e1 h1 => ?_⟩
  refine z_inL (sq_of h1) rfl (flat_strs _) ?_
  rw [inS]
  have qq : ∀ (w : Wd) (H2 : Hp), Ex H H2 → RetO K (some w) I H Q → RetD K (pd w) I H2 Q := fun w H2 e q v J H' a b c d f => q v J H' a (e.trans b) c (fun a o ha hI => d a o (e a o ha) hI) f
  walk_at "zz"
  unfold runW at q
  refine ite_b (fun h => ?_) (fun h => ?_)
  · walk_at "zz"
    refine ⟨szl (by simp), fun p hp => ?_⟩
    rw [if_pos (of_decide_eq_true h)] at q
    exact RetD.tup (qq _ _ e1 q) (eI.trans e1) hp (.cons (.str _) (.cons (.str _) .nil))
  rw [if_neg (of_decide_eq_false h)] at q
  walk_at "zz"
  refine z_CS (by rw [S_size]; omega) (fun i => isF ((c :: r).getD i 0)) (fun i => .str ⟨#[(c :: r).getD i 0]⟩) (fun _ => rfl) (fun i d H' hi hd e => fun H2 e2 Q' q' => ?_) (fun i d H' hi hd e _ => fun H2 e2 Q' q' => ?_) (fun p2 H2 hp2 e2 h2 => ?_)
  · have : (c :: r).getD i 0 = d := by
      rw [S_get] at hd
      rw [List.getD_eq_getElem?_getD, hd] <;> rfl
    rw [this] at q'
    walk_at "zz"
    refine z_inS ?_
    rw [in_fg]
    exact z_bl (q' _ (Ex.refl _))
  · have : (c :: r).getD i 0 = d := by
      rw [S_get] at hd
      rw [List.getD_eq_getElem?_getD, hd] <;> rfl
    rw [this] at q'
    walk_at "zz"
    exact q' _ (Ex.refl _)
  rw [S_size] at h2
  walk_at "zz"
  refine z_lenL (sq_of h2) ?_
  walk_at "zz"
  refine z_lenS hz' ?_
  walk_at "zz"
  rw [S_len]
  have hall : (decide (V.int ((Evl.given (c :: r).length (fun i => isF ((c :: r).getD i 0)) fun i => V.str ⟨#[(c :: r).getD i 0]⟩).length : Int) = V.int ((c :: r).length : Int))) = (c :: r).all isF := by
    have key := given_len_iff (c :: r).length (fun i => isF ((c :: r).getD i 0)) fun i => V.str ⟨#[(c :: r).getD i 0]⟩
    have k2 : (∀ i, i < (c :: r).length → isF ((c :: r).getD i 0) = true) ↔ (c :: r).all isF = true := by
      rw [List.all_eq_true]
      constructor
      · intro h d hd
        obtain ⟨i, hi, e⟩ := List.mem_iff_getElem.mp hd
        have := h i hi
        rw [List.getD_eq_getElem?_getD, List.getElem?_eq_getElem hi, e] at this
        exact this
      · intro h i hi
        rw [List.getD_eq_getElem?_getD, List.getElem?_eq_getElem hi]
        exact h _ (List.getElem_mem hi)
    cases ha : (c :: r).all isF with
    | true =>
      have := key.mpr (k2.mpr ha)
      rw [this, decide_eq_true rfl]
    | false =>
      refine decide_eq_false fun z => ?_
      have z' : (Evl.given (c :: r).length (fun i => isF ((c :: r).getD i 0)) fun i => V.str ⟨#[(c :: r).getD i 0]⟩).length = (c :: r).length := by
        injection z with z
        omega
      rw [k2.mp (key.mp z')] at ha
      cases ha
  rw [hall]
  have e0 : (Str.ofString "0" : Str) = S [48] := by decide +kernel
  refine ite_b (fun h => ?_) (fun h => ?_)
  · rw [if_pos h] at q
    walk_at "zz"
    refine z_lenS hz' ?_
    walk_at "zz"
    rw [S_len]
    refine ite_b (fun h3 => ?_) (fun h3 => ?_)
    · walk_at "zz"
      rw [if_pos (show badNum (c :: r) from .inl (by have := of_decide_eq_true h3; omega))] at q
      exact RetV.go q (e1.trans e2)
    have h20 : ¬ (c :: r).length > 20 := by
      have := of_decide_eq_false h3
      omega
    walk_at "zz"
    refine z_ixS hz' (at_S (i := 0) (c := c) rfl) ?_
    walk_at "zz"
    rw [one_eq, e0, str_dec]
    have last : ¬ badNum (c :: r) → (cIntStr [.str (S (c :: r))] H2 fun x1 H3 => tNil [some (.str (S (c :: r))), some (.ref p2), none] H3 fun xs H4 => ([V.str (Str.ofString "number")] ++ (x1 :: xs)).length ≤ sizeLine ∧ ∀ p, H4 p = none → Q (.ref p) (upd H4 p (.tup ([V.str (Str.ofString "number")] ++ (x1 :: xs))))) := fun nb => by
      rw [if_neg nb] at q
      refine ⟨_, nv (c :: r), rfl, int_S h (by simp) (by omega), by rw [S_len]; omega, ?_⟩
      walk_at "zz"
      refine ⟨szl (by simp), fun p hp => ?_⟩
      exact RetD.tup (qq _ _ (e1.trans e2) q) (eI.trans (e1.trans e2)) hp (.cons (.str _) (.cons (.int _) .nil))
    refine ite_b (fun h4 => ?_) (fun h4 => ?_)
    · have hc : c = 48 := by
        have := of_decide_eq_true h4
        injection this
      walk_at "zz"
      rw [str_dec]
      refine ite_b (fun h5 => ?_) (fun h5 => ?_)
      · walk_at "zz"
        rw [if_pos (show badNum (c :: r) from .inr ⟨by rw [hc] <;> rfl, fun z => by rw [decide_eq_true z] at h5; cases h5⟩)] at q
        exact RetV.go q (e1.trans e2)
      · walk_at "zz"
        refine last fun z => ?_
        rcases z with z | z
        · exact h20 z
        · exact z.2 (by simpa using h5)
    · walk_at "zz"
      refine last fun z => ?_
      rcases z with z | z
      · exact h20 z
      · refine of_decide_eq_false h4 ?_
        have := Option.some.inj z.1
        rw [show c = 48 from this]
  rw [if_neg (by rw [h]; decide)] at q
  walk_at "zz"
  refine z_ixS hz' (at_S (i := 0) (c := c) rfl) ?_
  walk_at "zz"
  refine z_inS ?_
  rw [in_fg]
  walk_at "zz"
  refine ite_b (fun h3 => ?_) (fun h3 => ?_)
  · walk_at "zz"
    rw [if_pos (.inl h3)] at q
    exact RetV.go q (e1.trans e2)
  walk_at "zz"
  refine z_lenS hz' ?_
  walk_at "zz"
  rw [S_len]
  refine ite_b (fun h4 => ?_) (fun h4 => ?_)
  · walk_at "zz"
    rw [if_pos (.inr (by have := of_decide_eq_true h4; omega))] at q
    exact RetV.go q (e1.trans e2)
  walk_at "zz"
  refine ⟨szl (by simp), fun p hp => ?_⟩
  rw [if_neg (fun z => z.elim (fun z => by rw [show isF ((c :: r).headD 0) = isF c from rfl, h3] at z; cases z) (fun z => of_decide_eq_false h4 (by omega)))] at q
  exact RetD.tup (qq _ _ (e1.trans e2) q) (eI.trans (e1.trans e2)) hp (.cons (.str _) (.cons (.str _) .nil))
theorem mk_str : (Str.ofString ":,.=<&|^+-~()[]" : Str) = S [58, 44, 46, 61, 60, 38, 124, 94, 43, 45, 126, 40, 41, 91, 93] := by decide +kernel
theorem in_mk (c : Nat) : decide (c ∈ (Str.ofString ":,.=<&|^+-~()[]" : Str).cps.toList) = decide (c ∈ marks1) := by rw [mk_str, S_tl] <;> rfl
theorem empty_str : (Str.ofString "" : Str) = S [] := by decide +kernel
theorem vr_L_words (vs H Q E) (h : sp_L_words K vs H Q E) : (rd_L_words K) { nx := fun _ H' => Q .non H', rt := Q } (start ["_law_row_here", "_law_found", "_law_left", "_law_size", "_law_word"] vs) H := by
  obtain ⟨l, rfl, hl, q⟩ := h
  unfold rd_L_words
  walk_at "zz"
  refine ⟨szl (by simp), fun p hp => ?_⟩
  walk_at "zz"
  refine z_while (fun m σ' H' => ∃ t ws y3 y4, m = t.length ∧ t.length + ws.length ≤ l.length ∧ σ' = [some (.str (S l)), some (.ref p), some (.str (S t)), y3, y4] ∧ SoFar K H p ws H' ∧ words l = (words t).map (ws ++ ·)) _ ⟨l, [], none, none, rfl, by simp, rfl, ⟨[], H, Ex.refl _, hp, Ex.new hp, upd_same, .nil⟩, by cases words l <;> rfl⟩ ?_
  rintro m σ' H' ⟨t, ws, y3, y4, rfl, hk, rfl, hs, hw⟩
  have ht : t.length ≤ 5000 := by omega
  have hz' := S_sz ht
  have stop : words t = some [] → Q (.ref p) H' := fun h => by
    rw [h] at hw
    rw [hw] at q
    have q' : RetLD K ((ws ++ []).map pd) H Q := q
    rw [List.append_nil] at q'
    exact hs.done hp q'
  walk_at "zz"
  rw [empty_str, str_dec]
  cases t with
  | nil =>
    refine ite_b (fun h => absurd h (by decide)) (fun _ => ?_)
    refine ite_f ?_
    walk_at "zz"
    exact stop (words_stop (l := []) rfl)
  | cons c r =>
  refine ite_b (fun _ => ?_) (fun h => by rw [decide_eq_false (by simp)] at h; cases h)
  walk_at "zz"
  refine z_ixS hz' (at_S (i := 0) (c := c) rfl) ?_
  walk_at "zz"
  rw [one_eq, show (Str.ofString "#" : Str) = S [35] by decide +kernel, str_dec]
  by_cases c35 : c = 35
  · rw [c35, decide_eq_true rfl]
    refine ite_b (fun h => absurd h (by decide)) (fun _ => ?_)
    walk_at "zz"
    exact stop (words_stop (by rw [M03.step, if_pos c35]))
  rw [decide_eq_false (by simpa using c35)]
  refine ite_b (fun _ => ?_) (fun h => absurd h (by decide))
  refine ⟨fun σ' H' => ∃ t ws y3 y4, t.length < (c :: r).length ∧ t.length + ws.length ≤ l.length ∧ σ' = [some (.str (S l)), some (.ref p), some (.str (S t)), y3, y4] ∧ SoFar K H p ws H' ∧ words l = (words t).map (ws ++ ·), fun σ' H' ⟨t, ws, y3, y4, h1, h2, h3, h4, h5⟩ => ⟨t.length, h1, t, ws, y3, y4, rfl, h2, h3, h4, h5⟩, ?_⟩
  walk_at "zz"
  -- the run of letters and figures
  have twl := tw_le (c :: r)
  refine z_while (fun m σ' H2 => ∃ k, m = (c :: r).length - k ∧ k ≤ ((c :: r).takeWhile isNS).length ∧ σ' = [some (.str (S l)), some (.ref p), some (.str (S (c :: r))), some (.int (k : Int)), y4] ∧ H2 = H') _ ⟨0, rfl, Nat.zero_le _, rfl, rfl⟩ ?_
  rintro m σ' H2 ⟨k, rfl, hkw, rfl, rfl⟩
  have sp1 := endSz_pos (c :: r) (by simp)
  have sp2 := endSz_le (c :: r) (by simp)
  -- behind the choice of a word
  have tail : ∀ (v : V) (H3 : Hp), Ex H2 H3 → (v = .non ∧ c ≠ 32 ∧ words (c :: r) = none) ∨ (∃ (w : Wd) (xs : List V) (Hb J : Hp), Ex H Hb ∧ Ex Hb J ∧ J p = none ∧ Ex J H3 ∧ H3 p = some (.lst xs) ∧ DpAll K Hb xs (ws.map pd) ∧ Dp K J v (pd w) ∧ M03.step (c :: r) = .word w ((c :: r).drop (endSz (c :: r)))) →
      tSeq (tIfS (tB (tIsN (tVar 4))) (tRet (tC .non)) tNext) (tSeq (tDrop (tBM K "list" rAppend (tVar 1) (tCons (tVar 4) tNil))) (tAsg (tSl rSlS (tVar 2) (tPart (tVar 3)) tNoPart) (gName 2)))
        { nx := fun σ' H' => ∃ t ws y3 y4, t.length < (c :: r).length ∧ t.length + ws.length ≤ l.length ∧ σ' = [some (.str (S l)), some (.ref p), some (.str (S t)), y3, y4] ∧ SoFar K H p ws H' ∧ words l = (words t).map (ws ++ ·), rt := Q }
        [some (.str (S l)), some (.ref p), some (.str (S (c :: r))), some (.int (endSz (c :: r) : Nat)), some v] H3 := fun v H3 e3 hv => by
    rcases hv with ⟨rfl, n32, hno⟩ | ⟨w, xs, Hb, J, x1, x2, x3, x4, x5, x6, x7, hst⟩
    · walk_at "zz"
      refine ite_b (fun _ => ?_) (fun h => absurd h (by decide))
      walk_at "zz"
      rw [hno] at hw
      exact RetW.none_of q hw (hs.ex.trans e3)
    · obtain ⟨a, rfl⟩ : ∃ a, v = .ref a := by
        cases w <;> cases x7 <;> exact ⟨_, rfl⟩
      walk_at "zz"
      refine ite_b (fun h => absurd h (by simp)) (fun _ => ?_)
      walk_at "zz"
      refine z_tyl (sq_of x5) ?_
      walk_at "zz"
      have xl := dpAll_len x6
      rw [List.length_map] at xl
      refine z_rapp x5 (Nat.lt_of_le_of_lt (by omega : xs.length ≤ 5000) (by decide)) ?_
      walk_at "zz"
      refine z_slS hz' ?_
      rw [S_cut, cutL_from]
      refine ⟨(c :: r).drop (endSz (c :: r)), ws ++ [w], _, _, ?_, ?_, rfl, SoFar.more x1 x2 x3 x4 x5 x6 x7, ?_⟩
      · rw [List.length_drop]
        simp
        omega
      · rw [List.length_drop, List.length_append]
        simp at *
        omega
      · rw [hw, words_word hst, map_app]
  obtain ⟨xs, Hb, x1, x2, x3, x4, x5⟩ := id hs
  -- what is chosen, once the run is known
  have fin : k = ((c :: r).takeWhile isNS).length →
      tSeq (tAsg (tC .non) (gName 4)) (tSeq (tIfS (tTest (tOp rEq (tOp rIxS (tVar 2) (tC (.int 0))) (tC (.str " ")))) (tSeq (tAsg (tSl rSlS (tVar 2) (tPart (tC (.int 1))) tNoPart) (gName 2)) tCont) tNext)
        (tSeq (tIfS (tTest (tOp rGtI (tVar 3) (tC (.int 0)))) (tAsg (tCall (sp_L_run K) [] E0 (tCons (tSl rSlS (tVar 2) tNoPart (tPart (tVar 3))) tNil)) (gName 4))
          (tIfS (tTest (tOp rEq (tSl rSlS (tVar 2) tNoPart (tPart (tC (.int 2)))) (tC (.str "==")))) (tSeq (tAsg (tC (.int 2)) (gName 3)) (tAsg (tTup (tCons (tC (.str "mark")) (tCons (tC (.str "==")) tNil))) (gName 4)))
            (tIfS (tTest (tOp rInSgn (tOp rIxS (tVar 2) (tC (.int 0))) (tC (.str ":,.=<&|^+-~()[]")))) (tSeq (tAsg (tC (.int 1)) (gName 3)) (tAsg (tTup (tCons (tC (.str "mark")) (tCons (tOp rIxS (tVar 2) (tC (.int 0))) tNil))) (gName 4))) tNext)))
          (tSeq (tIfS (tB (tIsN (tVar 4))) (tRet (tC .non)) tNext) (tSeq (tDrop (tBM K "list" rAppend (tVar 1) (tCons (tVar 4) tNil))) (tAsg (tSl rSlS (tVar 2) (tPart (tVar 3)) tNoPart) (gName 2))))))
        { nx := fun σ' H' => ∃ t ws y3 y4, t.length < (c :: r).length ∧ t.length + ws.length ≤ l.length ∧ σ' = [some (.str (S l)), some (.ref p), some (.str (S t)), y3, y4] ∧ SoFar K H p ws H' ∧ words l = (words t).map (ws ++ ·), rt := Q,
          bk := fun σ' H' => tRet (tVar 1) { nx := fun _ H' => Q .non H', rt := Q } σ' H', ct := fun σ' H' => ∃ t ws y3 y4, t.length < (c :: r).length ∧ t.length + ws.length ≤ l.length ∧ σ' = [some (.str (S l)), some (.ref p), some (.str (S t)), y3, y4] ∧ SoFar K H p ws H' ∧ words l = (words t).map (ws ++ ·) }
        [some (.str (S l)), some (.ref p), some (.str (S (c :: r))), some (.int (k : Int)), y4] H2 := fun ek => by
    walk_at "zz"
    refine z_ixS hz' (at_S (i := 0) (c := c) rfl) ?_
    walk_at "zz"
    rw [one_eq, show (Str.ofString " " : Str) = S [32] by decide +kernel, str_dec]
    refine ite_b (fun h => ?_) (fun h => ?_)
    · have e32 : c = 32 := by
        have := of_decide_eq_true h
        injection this
      walk_at "zz"
      refine z_slS hz' ?_
      rw [S_cut, show (some (1 : Int)) = some ((1 : Nat) : Int) from rfl, cutL_from]
      walk_at "zz"
      refine ⟨r, ws, _, _, by simp, by simp at hk; omega, rfl, hs, ?_⟩
      have hst : M03.step (c :: r) = .skip r := by rw [M03.step, if_neg c35, if_pos e32]
      rw [hw, words_skip hst]
    have n32 : c ≠ 32 := fun z => by
      rw [z, decide_eq_true rfl] at h
      cases h
    have hst := step_sz (r := r) c35 n32
    walk_at "zz"
    by_cases h3 : (c :: r).takeWhile isNS ≠ []
    · have k0 : 0 < k := by
        rw [ek]
        exact List.length_pos_iff.mpr h3
      have es : endSz (c :: r) = k := by
        unfold endSz
        rw [if_pos h3, ek]
      refine ite_b (fun _ => ?_) (fun h => absurd (of_decide_eq_false h) (by omega))
      walk_at "zz"
      refine z_slS hz' ?_
      rw [S_cut, cutL_to]
      have et : (c :: r).take k = (c :: r).takeWhile isNS := by
        rw [ek]
        exact (List.prefix_iff_eq_take.mp (List.takeWhile_prefix _)).symm
      rw [es, et, run_by h3 (tw_ns _)] at hst
      rw [et]
      refine ⟨_, Hb, rfl, x3, h3, by omega, ?_⟩
      unfold RetO
      cases hr : runW ((c :: r).takeWhile isNS) with
      | none =>
        rw [hr] at hst
        refine fun H3 e3 => ?_
        rw [← es]
        exact tail .non H3 e3 (.inl ⟨rfl, n32, words_bad hst⟩)
      | some w =>
        rw [hr] at hst
        refine fun v J H3 j1 j2 j3 j4 j5 => ?_
        rw [← es]
        rw [← es] at hst
        exact tail v H3 j2 (.inr ⟨w, xs, Hb, J, x1, j1, j4 p _ x4 x2, j3, j2 _ _ x4, x5, j5, hst⟩)
    have h3' := Decidable.not_not.mp h3
    have k0 : k = 0 := by
      rw [ek, h3'] <;> rfl
    refine ite_b (fun h => absurd (of_decide_eq_true h) (by omega)) (fun _ => ?_)
    walk_at "zz"
    refine z_slS hz' ?_
    rw [S_cut, show (some (2 : Int)) = some ((2 : Nat) : Int) from rfl, cutL_to]
    walk_at "zz"
    rw [show (Str.ofString "==" : Str) = S [61, 61] by decide +kernel, str_dec]
    have newT : ∀ (ts : List Nat) (H3 : Hp) (q0 : Addr), Hb q0 = none → Dp K (upd Hb q0 (.tup [.str (Str.ofString "mark"), .str (S ts)])) (.ref q0) (pd (.mark ts)) := fun ts H3 q0 hq => .tup (st_of upd_same) (.cons (.str _) (.cons (.str _) .nil))
    have exT : ∀ (o : HO) (q0 : Addr), H2 q0 = none → Ex (upd Hb q0 o) (upd H2 q0 o) := fun o q0 hq b u hb => by
      by_cases hbq : b = q0
      · subst hbq
        rw [upd_same] at hb ⊢
        exact hb
      · rw [upd_ne hbq] at hb ⊢
        exact x3 b u hb
    refine ite_b (fun h => ?_) (fun h => ?_)
    · have e2 := of_decide_eq_true h
      have es : endSz (c :: r) = 2 := by
        unfold endSz
        rw [if_neg h3, if_pos e2]
      rw [es, e2] at hst
      walk_at "zz"
      refine ⟨szl (by simp), fun q0 hq0 => ?_⟩
      have nq : p ≠ q0 := fun z => by
        rw [z, hq0] at x4
        cases x4
      have := tail (.ref q0) (upd H2 q0 (.tup [.str (Str.ofString "mark"), .str (S [61, 61])])) (Ex.new hq0) (.inr ⟨.mark [61, 61], xs, Hb, _, x1, Ex.new (fresh_back x3 hq0), by rw [upd_ne nq]; exact x2, exT _ _ hq0, by rw [upd_ne nq]; exact x4, x5, newT _ H2 q0 (fresh_back x3 hq0), by rw [es]; exact hst⟩)
      rw [es] at this
      exact this
    have n2 := of_decide_eq_false h
    have es : endSz (c :: r) = 1 := by
      unfold endSz
      rw [if_neg h3, if_neg n2]
    have hns : isNS c = false := by
      by_cases h : isNS c = true
      · exact absurd (by rw [List.takeWhile_cons, if_pos h]; simp) h3
      · exact Bool.eq_false_iff.mpr h
    rw [es, show (c :: r).take 1 = [c] from rfl, one_by hns] at hst
    walk_at "zz"
    refine z_ixS hz' (at_S (i := 0) (c := c) rfl) ?_
    walk_at "zz"
    refine z_inS ?_
    rw [in_mk]
    walk_at "zz"
    refine ite_b (fun h => ?_) (fun h => ?_)
    · rw [if_pos (of_decide_eq_true h)] at hst
      walk_at "zz"
      refine z_ixS hz' (at_S (i := 0) (c := c) rfl) ?_
      walk_at "zz"
      refine ⟨szl (by simp), fun q0 hq0 => ?_⟩
      have nq : p ≠ q0 := fun z => by
        rw [z, hq0] at x4
        cases x4
      have := tail (.ref q0) (upd H2 q0 (.tup [.str (Str.ofString "mark"), .str (S [c])])) (Ex.new hq0) (.inr ⟨.mark [c], xs, Hb, _, x1, Ex.new (fresh_back x3 hq0), by rw [upd_ne nq]; exact x2, exT _ _ hq0, by rw [upd_ne nq]; exact x4, x5, newT _ H2 q0 (fresh_back x3 hq0), by rw [es]; exact hst⟩)
      rw [es] at this
      exact this
    · rw [if_neg (of_decide_eq_false h)] at hst
      walk_at "zz"
      refine ite_b (fun _ => ?_) (fun h => absurd h (by decide))
      walk_at "zz"
      rw [words_bad hst] at hw
      exact RetW.none_of q hw hs.ex
  walk_at "zz"
  refine z_lenS hz' ?_
  walk_at "zz"
  rw [S_len]
  by_cases h1 : k < (c :: r).length
  · rw [decide_eq_true (by omega)]
    walk_at "zz"
    have hg : (c :: r)[k]? = some ((c :: r)[k]) := List.getElem?_eq_getElem h1
    refine z_ixS hz' (at_S hg) ?_
    walk_at "zz"
    refine z_inS ?_
    rw [in_ns]
    have tg := tw_get _ _ _ hkw hg
    walk_at "zz"
    by_cases h2 : isNS (c :: r)[k] = true
    · rw [h2]
      refine ite_t ⟨_, fun _ _ h => h, ?_⟩
      walk_at "zz"
      exact ⟨(c :: r).length - (k + 1), by omega, k + 1, rfl, tg.mp h2, rfl, rfl⟩
    · rw [Bool.eq_false_iff.mpr h2]
      refine ite_f ?_
      exact fin (by have := mt tg.mpr h2; omega)
  · rw [decide_eq_false (by omega)]
    refine ite_f (ite_f ?_)
    exact fin (by omega)
/-! ### texts with signs that texts may have -/
def okT (z : Str) (n : Nat) : Prop := z.length ≤ n ∧ okS z.cps.toList
theorem okT.mono {z : Str} {m n : Nat} (h : okT z m) (e : m ≤ n) : okT z n := ⟨Nat.le_trans h.1 e, h.2⟩
theorem okS_of (s : String) : okS (Str.ofString s).cps.toList := by
  rw [Str.ofString_eq_toList]
  intro c hc
  have hc' : c ∈ s.toList.map Char.toNat := by simpa using hc
  obtain ⟨ch, _, rfl⟩ := List.mem_map.mp hc'
  have := ch.valid
  show ch.val.toNat < 1114112
  rcases this with h | ⟨_, h⟩
  · exact Nat.lt_trans h (by decide)
  · exact h
theorem okT.of (s : String) {n : Nat} (h : (Str.ofString s).length ≤ n) : okT (Str.ofString s) n := ⟨h, okS_of s⟩
theorem tl_app (a b : Str) : (a ++ b).cps.toList = a.cps.toList ++ b.cps.toList := by
  show (a.cps ++ b.cps).toList = _
  simp
theorem okT.app {a b : Str} {m n : Nat} (h : okT a m) (k : okT b n) : okT (a ++ b) (m + n) := by
  refine ⟨by rw [txt_app_len]; exact Nat.add_le_add h.1 k.1, fun c hc => ?_⟩
  rw [tl_app] at hc
  exact (List.mem_append.mp hc).elim (h.2 c) (k.2 c)
theorem okT.cut {a : Str} {m : Nat} (lo hi : Option Int) (h : okT a m) : okT (cutS a lo hi) m := by
  refine ⟨Nat.le_trans (cutS_le _ _ _) h.1, ?_⟩
  rw [S_of a, S_cut, S_tl]
  exact fun c hc => h.2 c (List.mem_of_mem_drop (List.mem_of_mem_take hc))
theorem okT.one {a : Str} {m c : Nat} (h : okT a m) (hc : c ∈ a.cps.toList) : okT ⟨#[c]⟩ 1 := by
  refine ⟨Nat.le_refl _, fun d hd => ?_⟩
  have : d = c := by simpa using hd
  rw [this]
  exact h.2 c hc
theorem okT.S {l : List Nat} {n : Nat} (h : l.length ≤ n) (k : okS l) : okT (Z.S l) n := by
  refine ⟨by rw [S_len]; exact h, ?_⟩
  rw [S_tl]
  exact k
theorem okT.sz {z : Str} {n : Nat} (h : okT z n) (hn : n ≤ 1000) : z.length ≤ sizeLine := szl (Nat.le_trans h.1 hn)
theorem okT.ret {z : Str} {n : Nat} {H : Hp} {Q : VK} (h : okT z n) (q : ∀ l : List Nat, l.length ≤ n → okS l → RetV (.str (Z.S l)) H Q) : RetV (.str z) H Q := by
  rw [S_of z]
  exact q _ h.1 h.2
theorem okS_sub {l m : List Nat} (h : okS l) (k : ∀ c ∈ m, c ∈ l) : okS m := fun c hc => h c (k c hc)
theorem okS_told {l : List Nat} (h : l ∈ toldL) : okS l := by
  have : ∀ m ∈ toldL, ∀ c ∈ m, c < 1114112 := by decide +kernel
  exact this l h
theorem told_len {l : List Nat} (h : l ∈ toldL) : l.length ≤ 6 := by
  have : ∀ m ∈ toldL, m.length ≤ 6 := by decide +kernel
  exact this l h
theorem signs_len : signsL.length = 94 := by decide +kernel
theorem okS_signs : okS signsL := by
  have : ∀ c ∈ signsL, c < 1114112 := by decide +kernel
  exact this
theorem at_some {α : Type} {l : List α} {i : Int} (h0 : 0 ≤ i) (h : i < l.length) : ∃ c, atI l i = some c ∧ c ∈ l := by
  obtain ⟨j, rfl⟩ := Int.eq_ofNat_of_zero_le h0
  have hj : j < l.length := Int.ofNat_lt.mp h
  exact ⟨l[j], atI_nat (List.getElem?_eq_getElem hj), List.getElem_mem hj⟩
def ab36 : Str := Str.ofString "abcdefghijklmnopqrstuvwxyz" ++ Str.ofString "0123456789"
theorem ab36_len : ab36.cps.toList.length = 36 := by decide +kernel
theorem ab36_ok : okT ab36 36 := okT.app (okT.of _ (n := 26) (by decide +kernel)) (okT.of _ (n := 10) (by decide +kernel))
def ch36 (m k : Int) : Nat := (atI ab36.cps.toList (mixd m k / 5 % 36)).getD 0
theorem ch36_at (m k : Int) : atI ab36.cps.toList (mixd m k / 5 % 36) = some (ch36 m k) ∧ ch36 m k ∈ ab36.cps.toList := by
  obtain ⟨c, h1, h2⟩ := at_some (l := ab36.cps.toList) (i := mixd m k / 5 % 36) (by omega) (by rw [ab36_len]; omega)
  unfold ch36
  rw [h1]
  exact ⟨rfl, h2⟩
theorem vr_L_name (vs H Q E) (h : sp_L_name vs H Q E) : (rd_L_name K) { nx := fun _ H' => Q .non H', rt := Q } (start ["_law_number", "_law_letters", "_law_size", "_law_word", "_law_at", "_law_k"] vs) H := by
  obtain ⟨m, rfl, hm, q⟩ := h
  unfold rd_L_name
  walk_at "zz"
  obtain ⟨c, hc, cm⟩ := at_some (l := (Str.ofString "abcdefghijklmnopqrstuvwxyz" : Str).cps.toList) (i := m / 9 % 26) (by omega) (by rw [show (Str.ofString "abcdefghijklmnopqrstuvwxyz" : Str).cps.toList.length = 26 by decide +kernel]; omega)
  have okc := okT.one (okT.of "abcdefghijklmnopqrstuvwxyz" (n := 26) (by decide +kernel)) cm
  refine z_ixS (szl (by decide +kernel)) hc ?_
  walk_at "zz"
  refine z_CR1 ⟨by omega, by omega⟩ (fun _ => true) (fun k => .str ⟨#[ch36 m k]⟩) (fun _ => rfl) (fun i H' hi e => fun H2 e2 Q' q' => q' _ (Ex.refl _)) (fun i H' hi e _ => fun H2 e2 Q' q' => ?_) (fun p H1 hp e1 h1 => ?_)
  · walk_at "zz"
    refine z_addS (szl (by decide +kernel)) ?_
    walk_at "zz"
    refine ⟨m, i, rfl, ⟨by omega, by omega⟩, fun H3 e3 => ?_⟩
    walk_at "zz"
    refine z_ixS (z := ab36) (szl (by decide +kernel)) (ch36_at m i).1 ?_
    exact q' _ e3
  generalize hn : (1 + m % 9 - 1).toNat = n at h1
  have hn9 : n ≤ 8 := by omega
  rw [given_all] at h1
  refine z_nil ⟨_, p, (List.range n).map (fun k : Nat => S [ch36 m k]), rfl, rfl, .inl ?_, ?_, ?_⟩
  · rw [List.map_map]
    exact sq_of h1
  · rw [List.map_map, List.length_map, List.length_range, show (Str.ofString "" : Str).length = 0 by decide +kernel]
    have : ∀ (f : Nat → Nat), (∀ i, f i = 1) → ∀ n, ((List.range n).map f).sum = n := fun f hf n => by
      induction n with
      | zero => rfl
      | succ n ih => rw [List.range_succ, List.map_append, List.sum_append, ih]; simp [hf]
    rw [this ((fun x : Str => x.length) ∘ fun k : Nat => S [ch36 m k]) (fun i => rfl)]
    omega
  have okj : okT (Txt.join (Str.ofString "") ((List.range n).map (fun k : Nat => S [ch36 m k]))) 8 := by
    rw [empty_str]
    have : (List.range n).map (fun k : Nat => S [ch36 m k]) = ((List.range n).map fun k : Nat => [ch36 m k]).map S := by rw [List.map_map] <;> rfl
    rw [this, join_S]
    refine okT.S ?_ ?_
    · rw [← List.flatMap_def, List.length_flatMap]
      have : ∀ (f : Nat → Nat), (∀ i, f i = 1) → ∀ n, ((List.range n).map f).sum = n := fun f hf n => by
        induction n with
        | zero => rfl
        | succ n ih => rw [List.range_succ, List.map_append, List.sum_append, ih]; simp [hf]
      rw [this (fun k : Nat => [ch36 m k].length) (fun i => rfl)]
      exact hn9
    · intro d hd
      obtain ⟨l, hl, hdl⟩ := List.mem_flatten.mp hd
      obtain ⟨k, _, rfl⟩ := List.mem_map.mp hl
      have : d = ch36 m k := by simpa using hdl
      rw [this]
      exact ab36_ok.2 _ (ch36_at m k).2
  generalize Txt.join (Str.ofString "") ((List.range n).map (fun k : Nat => S [ch36 m k])) = J at okj ⊢
  refine z_addS (Nat.le_trans (Nat.add_le_add okc.1 okj.1) (by decide)) ?_
  have okw := okc.app okj
  generalize (⟨#[c]⟩ : Str) ++ J = W at okw ⊢
  walk_at "zz"
  refine ite_b (fun _ => ?_) (fun _ => ?_)
  · walk_at "zz"
    refine z_slS (okw.sz (by decide)) ?_
    walk_at "zz"
    refine ⟨(), rfl, fun H2 e2 => ?_⟩
    walk_at "zz"
    obtain ⟨d, hd, dm⟩ := at_some (l := (S signsL).cps.toList) (i := m / 12636 % 94) (by omega) (by rw [S_tl, signs_len]; omega)
    have okd := okT.one (okT.S (n := 94) (by rw [signs_len]; omega) okS_signs) dm
    refine z_ixS (szl (by rw [S_len, signs_len]; omega)) hd ?_
    have ok1 := (okw.cut none (some (m / 234 % (1 + m % 9)))).app okd
    refine z_addS (by rw [← txt_app_len]; exact ok1.sz (by decide)) ?_
    walk_at "zz"
    refine z_slS (okw.sz (by decide)) ?_
    have ok2 := ok1.app (okw.cut (some (m / 234 % (1 + m % 9) + 1)) none)
    refine z_addS (by rw [← txt_app_len]; exact ok2.sz (by decide)) ?_
    exact (ok2.mono (by decide)).ret q |>.go (e1.trans e2)
  · walk_at "zz"
    exact (okw.mono (by decide)).ret q |>.go e1
theorem z_pick {H : Hp} {p : Addr} {zs : List Str} {i : Int} {Q : VK} (h : SqL K H p (zs.map V.str)) (h0 : 0 ≤ i) (hi : i < zs.length) (q : ∀ z ∈ zs, Q (.str z) H) : rIxL K (.ref p) (.int i) H Q := by
  obtain ⟨v, hv, vm⟩ := at_some (l := zs.map V.str) h0 (by rw [List.length_map]; exact hi)
  obtain ⟨z, hz, rfl⟩ := List.mem_map.mp vm
  exact z_ixL h hv (q z hz)
theorem upper_told {l : List Nat} (h : l ∈ toldL) : okT (Txt.upper (S l)) 12 := by
  have : ∀ m ∈ toldL, (Txt.upper (S m)).length ≤ 12 ∧ ∀ c ∈ (Txt.upper (S m)).cps.toList, c < 1114112 := by decide +kernel
  exact this l h
theorem okT.mid {z : Str} (h : okS z.cps.toList) {sz : Int} (h0 : 0 ≤ sz) (h1 : sz ≤ 21) : okT (cutS z (some 2) (some (2 + sz))) 21 := by
  obtain ⟨k, rfl⟩ := Int.eq_ofNat_of_zero_le h0
  rw [S_of z, S_cut, show (some (2 : Int)) = some ((2 : Nat) : Int) from rfl, show (2 : Int) + (k : Int) = ((2 + k : Nat) : Int) by omega, cutL_mid]
  refine okT.S ?_ fun c hc => h c (List.mem_of_mem_drop (List.mem_of_mem_take hc))
  rw [List.length_take]
  omega
def marks18 : List (List Nat) := [[58], [44], [46], [61], [61, 61], [60], [38], [124], [94], [43], [45], [126], [40], [41], [91], [93], [61], [61, 61]]
theorem ok18 {z : Str} (h : z ∈ marks18.map S) : okT z 2 := by
  obtain ⟨l, hl, rfl⟩ := List.mem_map.mp h
  have : ∀ m ∈ marks18, m.length ≤ 2 ∧ ∀ c ∈ m, c < 1114112 := by decide +kernel
  exact okT.S (this l hl).1 (this l hl).2
theorem big_log {n : Int} (h0 : 0 ≤ n) (h1 : n < 100000000000000000000000) : n.natAbs.log2 < 1920 := by
  by_cases h : n.natAbs = 0
  · rw [h]
    decide
  · rw [Nat.log2_lt h]
    have : n.natAbs < 2 ^ 80 := by omega
    exact Nat.lt_trans this (Nat.pow_lt_pow_right (by decide) (by decide))
theorem vr_L_piece (vs H Q E) (h : sp_L_piece vs H Q E) : (rd_L_piece K) { nx := fun _ H' => Q .non H', rt := Q } (start ["_law_number", "_law_more", "_law_told_here", "_law_word", "_law_size"] vs) H := by
  obtain ⟨m, rfl, ⟨hm, hM⟩, q⟩ := h
  unfold rd_L_piece
  walk_at "zz"
  refine ⟨(), rfl, fun p1 H1 hp1 e1 h1 => ?_⟩
  walk_at "zz"
  have s1 : SqL K H1 p1 (toldL.map fun l => V.str (S l)) := sq_of h1
  have word : ∀ i : Int, 0 ≤ i → i < 15 → ∃ l, l ∈ toldL ∧ atI (toldL.map fun l => V.str (S l)) i = some (.str (S l)) := fun i h0 h15 => by
    obtain ⟨v, hv, vm⟩ := at_some (l := toldL.map fun l => V.str (S l)) h0 (by rw [List.length_map, show toldL.length = 15 from rfl]; omega)
    obtain ⟨l, hl, rfl⟩ := List.mem_map.mp vm
    exact ⟨l, hl, hv⟩
  refine ite_b (fun _ => ?_) (fun _ => ?_)
  · walk_at "zz"
    exact ⟨m / 9, rfl, by omega, fun l hl ok H2 e2 => q l (by omega) ok H2 (e1.trans e2)⟩
  walk_at "zz"
  refine ite_b (fun _ => ?_) (fun _ => ?_)
  · walk_at "zz"
    obtain ⟨l, hl, hw⟩ := word (m / 9 % 15) (by omega) (by omega)
    refine z_ixL s1 hw ?_
    exact ((okT.S (told_len hl) (okS_told hl)).mono (by decide)).ret q |>.go e1
  walk_at "zz"
  refine ite_b (fun _ => ?_) (fun _ => ?_)
  · walk_at "zz"
    obtain ⟨l, hl, hw⟩ := word (m / 9 % 15) (by omega) (by omega)
    refine z_ixL s1 hw ?_
    walk_at "zz"
    have ok := okT.S (told_len hl) (okS_told hl)
    have o1 := ok.app (okT.of "s" (n := 1) (by decide +kernel))
    refine z_addS (by rw [← txt_app_len]; exact o1.sz (by decide)) ?_
    walk_at "zz"
    refine z_slS (ok.sz (by decide)) ?_
    have o2 := ok.cut none (some (-1))
    walk_at "zz"
    have o3 := (okT.of "1" (n := 1) (by decide +kernel)).app ok
    refine z_addS (by rw [← txt_app_len]; exact o3.sz (by decide)) ?_
    walk_at "zz"
    have o4 := ok.app (okT.of "1" (n := 1) (by decide +kernel))
    refine z_addS (by rw [← txt_app_len]; exact o4.sz (by decide)) ?_
    walk_at "zz"
    refine ⟨_, rfl, rfl, Nat.le_trans ok.1 (by decide), ?_⟩
    have o5 := upper_told hl
    walk_at "zz"
    have o6 := ok.app ok
    refine z_addS (by rw [← txt_app_len]; exact o6.sz (by decide)) ?_
    walk_at "zz"
    refine ⟨szl (by simp), fun p2 hp2 => ?_⟩
    walk_at "zz"
    refine z_pick (zs := [_, _, _, _, _, _]) (sq_of upd_same) (by omega) (by show _ < ((6 : Nat) : Int); omega) (fun z hz => ?_)
    have oz : okT z 60 := by
      simp only [List.mem_cons, List.not_mem_nil, or_false] at hz
      rcases hz with rfl | rfl | rfl | rfl | rfl | rfl
      · exact o1.mono (by decide)
      · exact o2.mono (by decide)
      · exact o3.mono (by decide)
      · exact o4.mono (by decide)
      · exact o5.mono (by decide)
      · exact o6.mono (by decide)
    exact oz.ret q |>.go (e1.trans (Ex.new hp2))
  walk_at "zz"
  refine ite_b (fun _ => ?_) (fun _ => ?_)
  · walk_at "zz"
    refine ⟨szl (by simp), fun p2 hp2 => ?_⟩
    walk_at "zz"
    obtain ⟨v, hv, vm⟩ := at_some (l := [V.int (1 + m / 9 % 4), V.int (19 + m / 9 % 3), V.int (1 + m / 9 % 21)]) (i := m / 9 / 21 % 3) (by omega) (by show _ < ((3 : Nat) : Int); omega)
    obtain ⟨sz, rfl, s0, s21⟩ : ∃ sz, v = .int sz ∧ 0 ≤ sz ∧ sz ≤ 21 := by
      simp only [List.mem_cons, List.not_mem_nil, or_false] at vm
      rcases vm with rfl | rfl | rfl
      · exact ⟨_, rfl, by omega, by omega⟩
      · exact ⟨_, rfl, by omega, by omega⟩
      · exact ⟨_, rfl, by omega, by omega⟩
    refine z_ixL (sq_of upd_same) hv ?_
    walk_at "zz"
    refine ⟨szl (by simp), fun p3 hp3 => ?_⟩
    walk_at "zz"
    refine z_pick (zs := [Str.ofString "0", Str.ofString "00", Str.ofString "", Str.ofString ""]) (sq_of upd_same) (by omega) (by show _ < ((4 : Nat) : Int); omega) (fun z hz => ?_)
    have oz : okT z 2 := by
      simp only [List.mem_cons, List.not_mem_nil, or_false] at hz
      rcases hz with rfl | rfl | rfl | rfl
      · exact okT.of "0" (by decide +kernel)
      · exact okT.of "00" (by decide +kernel)
      · exact okT.of "" (by decide +kernel)
      · exact okT.of "" (by decide +kernel)
    walk_at "zz"
    refine z_i (show (0 : Int) < _ by decide) ?_
    walk_at "zz"
    have n0 := Int.emod_nonneg (m / 9 * 48271 ^ (4 : Int).toNat) (show (10 : Int) ^ (21 : Int).toNat ≠ 0 by decide)
    have n1 := Int.emod_lt_of_pos (m / 9 * 48271 ^ (4 : Int).toNat) (show (0 : Int) < 10 ^ (21 : Int).toNat by decide)
    generalize m / 9 * 48271 ^ (4 : Int).toNat % 10 ^ (21 : Int).toNat = R at n0 n1 ⊢
    rw [show (10 : Int) ^ (21 : Int).toNat = 1000000000000000000000 by decide] at n1
    rw [show (10 : Int) ^ (22 : Int).toNat = 10000000000000000000000 by decide]
    have lg := big_log (n := 10000000000000000000000 + R) (by omega) (by omega)
    refine z_strI lg ?_
    walk_at "zz"
    refine z_slS (int_text_fits lg) ?_
    have o2 := oz.app (okT.mid (okS_of (toString (10000000000000000000000 + R))) s0 s21)
    refine z_addS (by rw [← txt_app_len]; exact o2.sz (by decide)) ?_
    exact (o2.mono (by decide)).ret q |>.go ((e1.trans (Ex.new hp2)).trans (Ex.new hp3))
  walk_at "zz"
  refine ite_b (fun _ => ?_) (fun _ => ?_)
  · walk_at "zz"
    refine ⟨_, _, rfl, rfl, by decide +kernel, by decide +kernel, fun p hp => ?_⟩
    rw [show Txt.split (Str.ofString ": , . = == < & | ^ + - ~ ( ) [ ] = ==") (Str.ofString " ") = marks18.map S by decide +kernel]
    walk_at "zz"
    refine z_pick (sq_of upd_same) (by omega) (by rw [List.length_map]; show _ < ((18 : Nat) : Int); omega) (fun z hz => ?_)
    exact ((ok18 hz).mono (by decide)).ret q |>.go (e1.trans (Ex.new hp))
  walk_at "zz"
  refine ⟨(), rfl, fun H2 e2 => ?_⟩
  walk_at "zz"
  obtain ⟨d, hd, dm⟩ := at_some (l := (S signsL).cps.toList) (i := m / 9 % 94) (by omega) (by rw [S_tl, signs_len]; omega)
  have okd := okT.one (okT.S (n := 94) (by rw [signs_len]; omega) okS_signs) dm
  refine z_ixS (szl (by rw [S_len, signs_len]; omega)) hd ?_
  walk_at "zz"
  refine ⟨szl (by simp), fun p3 hp3 => ?_⟩
  walk_at "zz"
  refine z_pick (zs := [_, Str.ofString "  ", Str.ofString "# in", Str.ofString " #"]) (sq_of upd_same) (by omega) (by show _ < ((4 : Nat) : Int); omega) (fun z hz => ?_)
  have oz : okT z 60 := by
    simp only [List.mem_cons, List.not_mem_nil, or_false] at hz
    rcases hz with rfl | rfl | rfl | rfl
    · exact okd.mono (by decide)
    · exact okT.of "  " (by decide +kernel)
    · exact okT.of "# in" (by decide +kernel)
    · exact okT.of " #" (by decide +kernel)
  exact oz.ret q |>.go ((e1.trans e2).trans (Ex.new hp3))
theorem cutV_mem {xs : List V} {lo hi : Option Int} {x : V} (h : x ∈ cutV xs lo hi) : x ∈ xs := List.mem_of_mem_drop (List.mem_of_mem_take h)
theorem mul_blank (b : Bool) : okT (Txt.mul (Str.ofString " ") (if b then 1 else 0)) 1 := by
  have h : ∀ b : Bool, (Txt.mul (Str.ofString " ") (if b then 1 else 0)).length ≤ 1 ∧ ∀ c ∈ (Txt.mul (Str.ofString " ") (if b then 1 else 0)).cps.toList, c < 1114112 := by decide +kernel
  exact h b
theorem vr_L_row (vs H Q E) (h : sp_L_row K vs H Q E) : (rd_L_row K) { nx := fun _ H' => Q .non H', rt := Q } (start ["_law_script", "_law_first", "_law_row_here", "_law_k", "_law_cell_here", "_law_number"] vs) H := by
  obtain ⟨a, ns, f, rfl, ha, hn, hf, q⟩ := h
  unfold rd_L_row
  walk_at "zz"
  refine z_slL ha ?_
  intro p hp
  walk_at "zz"
  have cl : (cutV (ns.map V.int) (some (f : Int)) (some ((f : Int) + 31))).length ≤ 63 := Nat.le_trans (cutV_length _ _ _) (by rw [List.length_map]; exact hn)
  have cm : ∀ x ∈ cutV (ns.map V.int) (some (f : Int)) (some ((f : Int) + 31)), ∃ i : Int, x = .int i := fun x hx => by
    obtain ⟨i, _, rfl⟩ := List.mem_map.mp (cutV_mem hx)
    exact ⟨i, rfl⟩
  generalize cutV (ns.map V.int) (some (f : Int)) (some ((f : Int) + 31)) = xs at cl cm ⊢
  refine z_FE (xs := xs) (sq_of upd_same) (fun i σ' H' => ∃ z y3 y4 y5, okT z (61 * i) ∧ σ' = [some (.ref a), some (.int (f : Int)), some (.str z), y3, y4, y5] ∧ Ex (upd H p (.lst xs)) H') ⟨Str.ofString "", none, none, none, okT.of "" (by decide +kernel), rfl, Ex.refl _⟩ (fun i σ' H' hi h => ?_) (fun i x t σ' H' H2 hi hx h e ht eH => ?_) (fun σ' H' h => ?_)
  · obtain ⟨z, y3, y4, y5, _, _, e⟩ := h
    exact ex_l e (sq_of upd_same)
  · obtain ⟨z, y3, y4, y5, oz, rfl, e0⟩ := h
    subst eH
    obtain ⟨c, rfl⟩ := cm x (List.mem_of_getElem? hx)
    refine z_gtup2 (st_of upd_same) ?_
    walk_at "zz"
    refine ⟨c, i, rfl, ⟨by omega, by omega⟩, fun H3 e3 => ?_⟩
    have mb := mixd_b c i
    walk_at "zz"
    refine ⟨mixd c i / 3, rfl, ⟨by omega, by omega⟩, fun l hl ok H4 e4 => ?_⟩
    have o1 := oz.app (okT.S hl ok)
    have lz : 61 * i + 60 ≤ 5000 := by omega
    refine z_addS (by rw [← txt_app_len]; exact Nat.le_trans o1.1 (Nat.le_trans lz (by decide))) ?_
    walk_at "zz"
    refine z_mulS (mul_ok _ _ (by split <;> decide) (by split <;> decide) (by decide +kernel)) ?_
    have o2 := o1.app (mul_blank (decide (0 < mixd c i % 3)))
    refine z_addS (by rw [← txt_app_len]; exact Nat.le_trans o2.1 (Nat.le_trans (by omega : 61 * i + 60 + 1 ≤ 5000) (by decide))) ?_
    walk_at "zz"
    exact ⟨_, _, _, _, o2.mono (by omega), rfl, ((e0.trans e).trans e3).trans e4⟩
  · obtain ⟨z, y3, y4, y5, oz, rfl, e0⟩ := h
    walk_at "zz"
    exact (oz.mono (by omega)).ret q |>.go ((Ex.new hp).trans e0)
theorem WordsAt.mono {K : PySem.W.Frag} {H H' : Hp} {v : V} {r : Option (List Wd)} (e : Ex H H') (h : WordsAt K H v r) : WordsAt K H' v r := by
  cases r with
  | none => exact h
  | some ws =>
    obtain ⟨a, xs, rfl, h1, h2⟩ := h
    exact ⟨a, xs, rfl, ex_l e h1, dpAll_mono e h2⟩
theorem clAll_get : ∀ {ds : List PyData} {i : Nat} {d : PyData}, clAll ds = true → ds[i]? = some d → cl d = true
  | [], _, _, _, h => by simp at h
  | x :: xs, 0, d, hc, h => by
    cases h
    exact (Bool.and_eq_true_iff.mp (show (cl x && clAll xs) = true from hc)).1
  | x :: xs, i + 1, d, hc, h => clAll_get (i := i) (Bool.and_eq_true_iff.mp (show (cl x && clAll xs) = true from hc)).2 h
theorem word_at {H : Hp} {x : V} {w : Wd} (h : Dp K H x (pd w)) : ∃ t e1 e2 T, x = .ref t ∧ SqT K H t [e1, e2] ∧ TyX K H e2 (.type T) ∧ PySem.W.kitOne K (.type T) (.type "bool") = some false := by
  cases w with
  | num l =>
    cases h with
    | tup s a =>
      cases a with
      | cons a1 r =>
        cases r with
        | cons a2 r =>
          cases r
          cases a2
          exact ⟨_, _, _, "int", rfl, s, .base (.int _), kit_ty (by decide +kernel)⟩
  | _ l =>
    cases h with
    | tup s a =>
      cases a with
      | cons a1 r =>
        cases r with
        | cons a2 r =>
          cases r
          cases a2
          exact ⟨_, _, _, "str", rfl, s, .base (.str _), kit_ty (by decide +kernel)⟩
theorem pd_depth (w : Wd) : (pd w).depth ≤ 64 := by cases w <;> exact (by decide : (1 : Nat) ≤ 64)
theorem vr_L_same (vs H Q E) (h : sp_L_same K vs H Q E) : (rd_L_same K) { nx := fun _ H' => Q .non H', rt := Q } (start ["_law_found", "_law_due", "_law_one", "_law_other"] vs) H := by
  obtain ⟨v, u, r, rfl, hv, hu, hc, q⟩ := h
  unfold rd_L_same
  cases r with
  | none =>
    obtain rfl : v = .non := hv
    obtain rfl : u = .non := hu
    walk_at "zz"
    refine ite_b (fun _ => ?_) (fun h => absurd h (by decide))
    walk_at "zz"
    exact RetV.go q (Ex.refl H)
  | some ws =>
    obtain ⟨a, xs, rfl, sa, da⟩ := hv
    obtain ⟨b, ys, rfl, sb, db⟩ := hu
    obtain ⟨hcl, hlen⟩ := hc ws rfl
    have lx := dpAll_len da
    have ly := dpAll_len db
    rw [List.length_map] at lx ly
    walk_at "zz"
    refine ite_b (fun h => absurd h (by simp)) (fun _ => ?_)
    walk_at "zz"
    refine z_isi (T := "list") (b := true) (ty_lst sa) (kit_ty (by decide +kernel)) ?_
    walk_at "zz"
    refine ite_b (fun h => absurd h (by decide)) (fun _ => ?_)
    walk_at "zz"
    refine z_lenL sa ?_
    walk_at "zz"
    refine z_lenL sb ?_
    rw [lx, ly]
    walk_at "zz"
    refine ite_b (fun h => absurd h (by simp)) (fun _ => ?_)
    walk_at "zz"
    refine z_FZ (n := ws.length) (by omega) sa sb (fun i σ' H' => ∃ y2 y3, σ' = [some (.ref a), some (.ref b), y2, y3] ∧ Ex H H') ⟨none, none, rfl, Ex.refl H⟩ (fun i σ' H' hi h => ?_) (fun i x y t σ' H' H2 hi hx hy h e ht eH => ?_) (fun σ' H' h => ?_)
    · obtain ⟨y2, y3, _, e⟩ := h
      exact ⟨ex_l e sa, ex_l e sb⟩
    · obtain ⟨y2, y3, rfl, e0⟩ := h
      subst eH
      refine z_gtup2 (st_of upd_same) ?_
      obtain ⟨d, hd, dx⟩ := dpAll_get da hx
      obtain ⟨d', hd', dy⟩ := dpAll_get db hy
      have := hd.symm.trans hd'
      cases this
      rw [List.getElem?_map] at hd
      obtain ⟨w, hw, rfl⟩ : ∃ w, ws[i]? = some w ∧ pd w = d := by
        cases hw : ws[i]? with
        | none =>
          rw [hw] at hd
          cases hd
        | some w =>
          rw [hw] at hd
          exact ⟨w, rfl, by cases hd; rfl⟩
      have cw := clAll_get (i := i) hcl (by rw [List.getElem?_map, hw]; rfl)
      have ee := e0.trans e
      have dx' := dp_mono ee dx
      have dy' := dp_mono ee dy
      obtain ⟨tx, x1, x2, T, rfl, st, ty2, kt⟩ := word_at dx'
      walk_at "zz"
      refine z_isi (T := "tuple") (b := true) (ty_tup st) (kit_ty (by decide +kernel)) ?_
      walk_at "zz"
      refine ite_b (fun h => absurd h (by decide)) (fun _ => ?_)
      walk_at "zz"
      refine z_neD (b := true) dx' dy' cw cw (pd_depth w) (pd_depth w) ⟨fun _ => rfl, fun _ => rfl⟩ ?_
      walk_at "zz"
      refine ite_b (fun h => absurd h (by decide)) (fun _ => ?_)
      walk_at "zz"
      refine z_ixT st (v := x2) rfl ?_
      walk_at "zz"
      refine z_isi (b := false) ty2 kt ?_
      walk_at "zz"
      exact ⟨_, _, rfl, ee⟩
    · obtain ⟨y2, y3, rfl, e0⟩ := h
      walk_at "zz"
      exact RetV.go q e0
theorem strOk_S {l : List Nat} (h : okS l) : PySem.PyData.strOk (S l) = true := by
  unfold PySem.PyData.strOk
  rw [← Array.all_toList, S_tl, List.all_eq_true]
  exact fun c hc => decide_eq_true (h c hc)
theorem cl_pd {w : Wd} (h : ∀ l, w = .told l ∨ w = .mark l ∨ w = .name l → okS l) : cl (pd w) = true := by
  have t : ∀ (s : String) (l : List Nat), okS l → cl (.tuple [.str (Str.ofString s), .str (S l)]) = true := fun s l ok => by
    show (PySem.PyData.strOk (Str.ofString s) && (PySem.PyData.strOk (S l) && true)) = true
    rw [strOk_S ok, S_of (Str.ofString s), strOk_S (okS_of s)] <;> rfl
  cases w with
  | told l => exact t "told" l (h l (.inl rfl))
  | mark l => exact t "mark" l (h l (.inr (.inl rfl)))
  | name l => exact t "name" l (h l (.inr (.inr rfl)))
  | num l =>
    show (PySem.PyData.strOk (Str.ofString "number") && (true && true)) = true
    rw [S_of (Str.ofString "number"), strOk_S (okS_of "number")] <;> rfl
theorem by_pay {a : List Nat} {w : Wd} (h : wordBy a = some w) : w = .told a ∨ w = .mark a ∨ w = .name a ∨ w = .num a := by
  unfold wordBy at h
  split at h
  · exact .inl (Option.some.inj h).symm
  · split at h
    · exact .inr (.inl (Option.some.inj h).symm)
    · split at h
      · exact .inr (.inr (.inl (Option.some.inj h).symm))
      · split at h
        · exact .inr (.inr (.inr (Option.some.inj h).symm))
        · cases h
theorem words_cl : ∀ (n : Nat) (l : List Nat) (ws : List Wd), l.length ≤ n → okS l → words l = some ws → clAll (ws.map pd) = true
  | n, [], ws, _, _, h => by
    rw [words_stop rfl] at h
    cases h
    rfl
  | 0, c :: r, ws, h, _, _ => by simp at h
  | n + 1, c :: r, ws, hl, ok, h => by
    by_cases c35 : c = 35
    · rw [words_stop (by rw [M03.step, if_pos c35])] at h
      cases h
      rfl
    by_cases c32 : c = 32
    · rw [words_skip (r := r) (by rw [M03.step, if_neg c35, if_pos c32])] at h
      exact words_cl n r ws (by simpa using hl) (okS_sub ok fun d hd => List.mem_cons_of_mem _ hd) h
    have hs := step_sz (r := r) c35 c32
    cases hb : wordBy ((c :: r).take (endSz (c :: r))) with
    | none =>
      rw [hb] at hs
      rw [words_bad hs] at h
      cases h
    | some w =>
      rw [hb] at hs
      rw [words_word hs] at h
      have l1 := step_less _ _ (.inr ⟨w, hs⟩)
      cases ht : words ((c :: r).drop (endSz (c :: r))) with
      | none =>
        rw [ht] at h
        cases h
      | some us =>
        rw [ht] at h
        cases h
        have := words_cl n _ us (by simp at *; omega) (okS_sub ok fun d hd => List.mem_of_mem_drop hd) ht
        have okt : okS ((c :: r).take (endSz (c :: r))) := okS_sub ok fun d hd => List.mem_of_mem_take hd
        rw [List.map_cons]
        show (cl (pd w) && clAll (us.map pd)) = true
        rw [this, Bool.and_true]
        refine cl_pd fun m hm => ?_
        rcases by_pay hb with e | e | e | e <;> subst e <;> rcases hm with hm | hm | hm <;> cases hm <;> exact okt
theorem pd_depths : ∀ ws : List Wd, PyData.depthAll (ws.map pd) ≤ 1
  | [] => Nat.zero_le _
  | w :: ws => by
    rw [List.map_cons]
    show max (pd w).depth (PyData.depthAll (ws.map pd)) ≤ 1
    have a := pd_depths ws
    have b : (pd w).depth ≤ 1 := by cases w <;> exact (by decide : (1 : Nat) ≤ 1)
    omega
/-- what is told, as data -/
def wdat (r : Option (List Wd)) : PyData := match r with
  | none => .none
  | some ws => .list (ws.map pd)
theorem WordsAt.dp {K : PySem.W.Frag} {H : Hp} {v : V} {r : Option (List Wd)} (h : WordsAt K H v r) : Dp K H v (wdat r) := by
  cases r with
  | none =>
    obtain rfl : v = .non := h
    exact .non
  | some ws =>
    obtain ⟨a, xs, rfl, h1, h2⟩ := h
    exact .lst h1 h2
theorem wdat_cl {l : List Nat} (ok : okS l) : cl (wdat (words l)) = true := by
  cases h : words l with
  | none => rfl
  | some ws => exact words_cl _ l ws (Nat.le_refl _) ok h
theorem wdat_depth (r : Option (List Wd)) : (wdat r).depth ≤ 64 := by
  cases r with
  | none => exact Nat.zero_le _
  | some ws =>
    show PyData.depthAll (ws.map pd) + 1 ≤ 64
    have := pd_depths ws
    omega
theorem wdat_name (l : List Nat) : nameOk l = true ↔ wdat (words l) = .list [.tuple [.str (Str.ofString "name"), .str (S l)]] := by
  rw [← name_iff]
  constructor
  · intro h
    rw [h]
    rfl
  · intro h
    cases hw : words l with
    | none =>
      rw [hw] at h
      cases h
    | some ws =>
      rw [hw] at h
      have h : PyData.list (ws.map pd) = _ := h
      injection h with h
      cases ws with
      | nil => cases h
      | cons w us =>
        rw [List.map_cons] at h
        injection h with h1 h2
        cases us with
        | cons _ _ => cases h2
        | nil =>
          cases w with
          | name m =>
            injection h1 with h1
            injection h1 with _ h1
            injection h1 with h1 _
            injection h1 with h1
            rw [S_inj h1]
          | told m =>
            injection h1 with h1
            injection h1 with h1 _
            injection h1 with h1
            exact absurd h1 (by decide +kernel)
          | mark m =>
            injection h1 with h1
            injection h1 with h1 _
            injection h1 with h1
            exact absurd h1 (by decide +kernel)
          | num m =>
            injection h1 with h1
            injection h1 with h1 _
            injection h1 with h1
            exact absurd h1 (by decide +kernel)
/-- words told: what is known of them -/
theorem RetW.mk {r : Option (List Wd)} {H : Hp} {Q : VK} (q : ∀ v H', Ex H H' → WordsAt K H' v r → (v = .non ∨ ∃ p xs ws, v = .ref p ∧ r = some ws ∧ H p = none ∧ H' p = some (.lst xs) ∧ xs.length = ws.length) → Q v H') : RetW K r H Q := by
  cases r with
  | none => exact fun H' e => q .non H' e rfl (.inl rfl)
  | some ws => exact fun p xs H' hp e hx dx => q (.ref p) H' e ⟨p, xs, rfl, sq_of hx, dx⟩ (.inr ⟨p, xs, ws, rfl, rfl, hp, hx, by have := dpAll_len dx; rw [List.length_map] at this; exact this⟩)
theorem words_b {l : List Nat} (h : l.length ≤ 5000) (ok : okS l) : ∀ ws, words l = some ws → clAll (ws.map pd) = true ∧ ws.length ≤ 5000 := fun ws hw => ⟨words_cl _ l ws (Nat.le_refl _) ok hw, Nat.le_trans (words_len _ l ws (Nat.le_refl _) hw) h⟩
theorem Thing.mono {H H' : Hp} {v : V} {b : Bool} (e : Ex H H') (h : Thing H v b) : Thing H' v b := h.imp id fun ⟨h1, h2⟩ => ⟨h1.mono e, h2⟩
theorem vr_L_is (vs H Q E) (h : sp_L_is K vs H Q E) : (rd_L_is K) { nx := fun _ H' => Q .non H', rt := Q } (start ["_law_thing", "_law_found", "_law_due"] vs) H := by
  obtain ⟨v, b, rfl, hv, ho, q⟩ := h
  unfold rd_L_is
  walk_at "zz"
  refine ⟨v, b, rfl, hv, fun H1 e1 => ?_⟩
  walk_at "zz"
  have fin : ∀ H2, Ex H H2 → tAndT K (tCB (rIsi K) (tCons (tVar 1) (tCons (tC (.ty "bool")) tNil))) (tOp rEq (tVar 1) (tVar 2)) [some v, some (.bl b), some (.bl b)] H2 Q := fun H2 e2 => by
    walk_at "zz"
    refine z_isi (T := "bool") (b := true) (.base (.bl _)) (kit_ty (by decide +kernel)) ?_
    walk_at "zz"
    rw [decide_eq_true rfl]
    exact RetV.go q e2
  refine isi_str (hv.mono e1) (fun l hvl hl hb => ?_) (fun hod hb => ?_)
  · subst hvl
    have ok := ho l rfl
    walk_at "zz"
    refine ⟨l, rfl, hl, RetW.mk fun u H2 e2 hu _ => ?_⟩
    walk_at "zz"
    refine ⟨szl (by simp), fun p2 hp2 => ?_⟩
    walk_at "zz"
    refine ⟨szl (by simp), fun p3 hp3 => ?_⟩
    have e3 : Ex H2 (upd H2 p2 (.tup [.str (Str.ofString "name"), .str (S l)])) := Ex.new hp2
    have e4 : Ex (upd H2 p2 (.tup [.str (Str.ofString "name"), .str (S l)])) (upd (upd H2 p2 (.tup [.str (Str.ofString "name"), .str (S l)])) p3 (.lst [.ref p2])) := Ex.new hp3
    have cn : cl (.list [.tuple [.str (Str.ofString "name"), .str (S l)]]) = true := by
      show (cl (pd (.name l)) && true) = true
      rw [Bool.and_true]
      refine cl_pd fun m hm => ?_
      rcases hm with hm | hm | hm <;> cases hm
      exact ok
    refine z_eqD (b := nameOk l) (dp_mono (e3.trans e4) hu.dp) (.lst (sq_of upd_same) (.cons (.tup (ex_t e4 (st_of upd_same)) (.cons (.str _) (.cons (.str _) .nil))) .nil)) (wdat_cl ok) cn (wdat_depth _) (show (2 : Nat) ≤ 64 by decide) (wdat_name l) ?_
    rw [← hb]
    exact fin _ (((e1.trans e2).trans e3).trans e4)
  · subst hb
    walk_at "zz"
    refine z_isi (T := "bool") (b := true) (.base (.bl _)) (kit_ty (by decide +kernel)) ?_
    walk_at "zz"
    rw [decide_eq_true rfl]
    exact RetV.go q e1
theorem thing_str (H : Hp) (s : String) (h : (Str.ofString s).length ≤ 5000) : Thing H (.str (Str.ofString s)) (nameOk (Str.ofString s).cps.toList) := .inl ⟨(Str.ofString s).cps.toList, by rw [← S_of], h, rfl⟩
theorem ok_str (s : String) : ∀ l, V.str (Str.ofString s) = .str (S l) → okS l := fun l h => by
  injection h with h
  have := okS_of s
  rw [h, S_tl] at this
  exact this
theorem vr_law (vs H Q E) (h : sp_law K vs H Q E) : (rd_law K) { nx := fun _ H' => Q .non H', rt := Q } (start ["_law_script", "_law_first", "_law_row_here", "_law_due", "_law_turn", "_law_found", "_law_k", "_law_cell_here", "_law_number", "_law_word", "_law_odd"] vs) H := by
  obtain ⟨a, ns, rfl, ha, hn, q⟩ := h
  unfold rd_law
  walk_at "zz"
  refine ⟨szl (by simp), fun p0 hp0 => ?_⟩
  have E0 : Ex H (upd H p0 (.tup [.int 0, .int 31])) := Ex.new hp0
  refine z_FT (xs := [.int 0, .int 31]) (st_of upd_same) (fun i σ' H' => ∃ y1 y2 y3 y4 y5, σ' = [some (.ref a), y1, y2, y3, y4, y5, none, none, none, none, none] ∧ Ex (upd H p0 (.tup [.int 0, .int 31])) H') ⟨none, none, none, none, none, rfl, Ex.refl _⟩ (fun i σ' H' hi h => ?_) (fun i x σ' H' hi hx h => ?_) (fun σ' H' h => ?_)
  · obtain ⟨y1, y2, y3, y4, y5, _, e⟩ := h
    exact ex_t e (st_of upd_same)
  · obtain ⟨y1, y2, y3, y4, y5, rfl, e⟩ := h
    obtain ⟨f, rfl, hf⟩ : ∃ f : Nat, x = .int (f : Int) ∧ f ≤ 31 := by
      have := List.mem_of_getElem? hx
      simp only [List.mem_cons, List.not_mem_nil, or_false] at this
      rcases this with rfl | rfl
      · exact ⟨0, rfl, by decide⟩
      · exact ⟨31, rfl, by decide⟩
    walk_at "zz"
    refine ⟨a, ns, f, rfl, ex_l (E0.trans e) ha, hn, hf, fun l hl ok H1 e1 => ?_⟩
    walk_at "zz"
    refine ⟨l, rfl, hl, RetW.mk fun u H2 e2 hu _ => ?_⟩
    walk_at "zz"
    refine z_FR1 (by decide) (fun i σ' H' => ∃ y4 y5, σ' = [some (.ref a), some (.int (f : Int)), some (.str (S l)), some u, y4, y5, none, none, none, none, none] ∧ Ex H2 H') ⟨_, _, rfl, Ex.refl _⟩ (fun i σ' H' hi h => ?_) (fun σ' H' h => ?_)
    · obtain ⟨y4, y5, rfl, e3⟩ := h
      walk_at "zz"
      refine ⟨l, rfl, hl, RetW.mk fun v H4 e4 hv fr => ?_⟩
      walk_at "zz"
      refine ⟨v, u, words l, rfl, hv, hu.mono (e3.trans e4), words_b hl ok, fun H5 e5 => ?_⟩
      walk_at "zz"
      refine ite_f ?_
      walk_at "zz"
      rcases fr with rfl | ⟨p, xs, ws, rfl, hws, hp, hx, hxl⟩
      · refine z_isi (T := "NoneType") (b := false) (.base .non) (kit_ty (by decide +kernel)) ?_
        walk_at "zz"
        exact ⟨_, _, rfl, (e3.trans e4).trans e5⟩
      · have hx5 := e5 _ _ hx
        refine z_isi (T := "list") (b := true) (ty_lst (sq_of hx5)) (kit_ty (by decide +kernel)) ?_
        walk_at "zz"
        refine z_tyl (sq_of hx5) ?_
        walk_at "zz"
        refine ⟨szl (by simp), fun p6 hp6 => ?_⟩
        have e6 : Ex H5 (upd H5 p6 (.tup [.str (Str.ofString "name"), .str (Str.ofString "more")])) := Ex.new hp6
        walk_at "zz"
        have lx : xs.length ≤ 5000 := by
          rw [hxl]
          exact ((words_b hl ok) ws hws).2
        refine z_rapp (e6 _ _ hx5) (Nat.lt_of_le_of_lt lx (by decide)) ?_
        walk_at "zz"
        exact ⟨_, _, rfl, Ex.mut (((e3.trans e4).trans e5).trans e6) (fresh_back e3 hp)⟩
    · obtain ⟨y4, y5, rfl, e3⟩ := h
      exact ⟨_, _, _, _, _, rfl, ((e.trans e1).trans e2).trans e3⟩
  · obtain ⟨y1, y2, y3, y4, y5, rfl, e⟩ := h
    have e' := E0.trans e
    walk_at "zz"
    refine z_slL (ex_l e' ha) ?_
    intro p1 hp1
    walk_at "zz"
    have cl : (cutV (ns.map V.int) none (some 63)).length ≤ 63 := Nat.le_trans (cutV_length _ _ _) (by rw [List.length_map]; exact hn)
    have cm : ∀ x ∈ cutV (ns.map V.int) none (some 63), ∃ i : Int, x = .int i := fun x hx => by
      obtain ⟨i, _, rfl⟩ := List.mem_map.mp (cutV_mem hx)
      exact ⟨i, rfl⟩
    generalize cutV (ns.map V.int) none (some 63) = xs at cl cm ⊢
    refine ⟨szl (by simp), fun p2 hp2 => ?_⟩
    have ne : p1 ≠ p2 := fun z => by
      rw [z, upd_same] at hp2
      cases hp2
    refine z_cat (xs := xs) (ys := [.int 5]) (by rw [upd_ne ne]; exact upd_same) upd_same (Nat.le_trans (Nat.add_le_add cl (Nat.le_refl _)) (by decide)) fun p3 hp3 => ?_
    have e3 : Ex H (upd (upd (upd H' p1 (.lst xs)) p2 (.lst [.int 5])) p3 (.lst (xs ++ [.int 5]))) := ((e'.trans (Ex.new hp1)).trans (Ex.new hp2)).trans (Ex.new hp3)
    walk_at "zz"
    have lz : (xs ++ [V.int 5]).length ≤ 64 := by
      rw [List.length_append]
      simp
      omega
    have mz : ∀ x ∈ xs ++ [V.int 5], ∃ i : Int, x = .int i := fun x hx => by
      rcases List.mem_append.mp hx with h | h
      · exact cm x h
      · exact ⟨5, by simpa using h⟩
    refine z_FE (xs := xs ++ [V.int 5]) (sq_of upd_same) (fun i σ' H1 => ∃ y1 y2 y3 y4 y5 y6 y7 y8 y9 y10, σ' = [some (.ref a), y1, y2, y3, y4, y5, y6, y7, y8, y9, y10] ∧ Ex (upd (upd (upd H' p1 (.lst xs)) p2 (.lst [.int 5])) p3 (.lst (xs ++ [.int 5]))) H1) ⟨_, _, _, _, _, _, _, _, _, _, rfl, Ex.refl _⟩ (fun i σ' H1 hi h => ?_) (fun i x t σ' H1 H2 hi hx h ee ht eH => ?_) (fun σ' H1 h => ?_)
    · obtain ⟨_, _, _, _, _, _, _, _, _, _, _, e4⟩ := h
      exact ex_l e4 (sq_of upd_same)
    · obtain ⟨z1, z2, z3, z4, z5, z6, z7, z8, z9, z10, rfl, e4⟩ := h
      subst eH
      obtain ⟨c, rfl⟩ := mz x (List.mem_of_getElem? hx)
      refine z_gtup2 (st_of upd_same) ?_
      walk_at "zz"
      refine ⟨c, 70 + (i : Int) % 5, rfl, ⟨by omega, by omega⟩, fun H3 e5 => ?_⟩
      have mb := mixd_b c (70 + (i : Int) % 5)
      generalize mixd c (70 + (i : Int) % 5) = N at mb ⊢
      walk_at "zz"
      refine ⟨N / 7, rfl, by omega, fun l1 hl1 ok1 H4 e6 => ?_⟩
      walk_at "zz"
      refine ⟨N / 7, rfl, ⟨by omega, by omega⟩, fun l2 hl2 ok2 H5 e7 => ?_⟩
      walk_at "zz"
      refine ⟨szl (by simp), fun p6 hp6 => ?_⟩
      walk_at "zz"
      refine z_pick (zs := [_, _]) (sq_of upd_same) (by omega) (by show _ < ((2 : Nat) : Int); omega) (fun z hz => ?_)
      obtain ⟨l, rfl, hl, ok⟩ : ∃ l, z = S l ∧ l.length ≤ 60 ∧ okS l := by
        simp only [List.mem_cons, List.not_mem_nil, or_false] at hz
        rcases hz with rfl | rfl
        · exact ⟨l1, rfl, by omega, ok1⟩
        · exact ⟨l2, rfl, hl2, ok2⟩
      have hl' : l.length ≤ 5000 := by omega
      have e8 : Ex H5 (upd H5 p6 (.lst [.str (S l1), .str (S l2)])) := Ex.new hp6
      have eA := (((((e4.trans ee).trans e5).trans e6).trans e7).trans e8)
      generalize upd H5 p6 (.lst [.str (S l1), .str (S l2)]) = H6 at e8 eA ⊢
      walk_at "zz"
      refine ⟨szl (by simp), fun p7 hp7 => ?_⟩
      walk_at "zz"
      refine ⟨szl (by simp), fun p8 hp8 => ?_⟩
      walk_at "zz"
      refine z_dnew fun p9 hp9 => ?_
      walk_at "zz"
      refine ⟨szl (by simp), fun p10 hp10 => ?_⟩
      walk_at "zz"
      have f7 : Ex H6 (upd H6 p7 (.lst [.str (Str.ofString "a")])) := Ex.new hp7
      have g7 : upd H6 p7 (.lst [.str (Str.ofString "a")]) p7 = some (.lst [.str (Str.ofString "a")]) := upd_same
      generalize upd H6 p7 (.lst [.str (Str.ofString "a")]) = H7 at f7 g7 hp8 hp9 hp10 ⊢
      have f8 : Ex H7 (upd H7 p8 (.tup [.str (Str.ofString "a")])) := Ex.new hp8
      have g8 : upd H7 p8 (.tup [.str (Str.ofString "a")]) p8 = some (.tup [.str (Str.ofString "a")]) := upd_same
      generalize upd H7 p8 (.tup [.str (Str.ofString "a")]) = H8 at f8 g8 hp9 hp10 ⊢
      have f9 : Ex H8 (upd H8 p9 (.dK [])) := Ex.new hp9
      have g9 : upd H8 p9 (.dK []) p9 = some (.dK []) := upd_same
      generalize upd H8 p9 (.dK []) = H9 at f9 g9 hp10 ⊢
      obtain ⟨v, hv, vm⟩ := at_some (l := [V.non, V.int 5, V.bl true, V.ref p7, V.ref p8, V.ref p9, V.str (Str.ofString ""), V.str (Str.ofString "a b"), V.str (Str.ofString " a"), V.str (Str.ofString "a "), V.str (Str.ofString "9"), V.str (Str.ofString "a\n")]) (i := N / 2 % 12) (by omega) (by show _ < ((12 : Nat) : Int); omega)
      refine z_ixL (sq_of upd_same) hv ?_
      have f10 : Ex H9 (upd H9 p10 (.lst [V.non, V.int 5, V.bl true, V.ref p7, V.ref p8, V.ref p9, V.str (Str.ofString ""), V.str (Str.ofString "a b"), V.str (Str.ofString " a"), V.str (Str.ofString "a "), V.str (Str.ofString "9"), V.str (Str.ofString "a\n")])) := Ex.new hp10
      generalize upd H9 p10 (.lst [V.non, V.int 5, V.bl true, V.ref p7, V.ref p8, V.ref p9, V.str (Str.ofString ""), V.str (Str.ofString "a b"), V.str (Str.ofString " a"), V.str (Str.ofString "a "), V.str (Str.ofString "9"), V.str (Str.ofString "a\n")]) = HA at f10 ⊢
      obtain ⟨tb, hth, hok⟩ : ∃ b, Thing HA v b ∧ ∀ l, v = .str (S l) → okS l := by
        have tx : ∀ s : String, (Str.ofString s).length ≤ 5000 → ∃ b, Thing HA (.str (Str.ofString s)) b ∧ ∀ l, V.str (Str.ofString s) = .str (S l) → okS l := fun s h => ⟨_, thing_str HA s h, ok_str s⟩
        have to : ∀ v, Odd HA v → (∀ l, v ≠ .str l) → ∃ b, Thing HA v b ∧ ∀ l, v = .str (S l) → okS l := fun v h n => ⟨false, .inr ⟨h, rfl⟩, fun l hl => absurd hl (n _)⟩
        simp only [List.mem_cons, List.not_mem_nil, or_false] at vm
        rcases vm with rfl | rfl | rfl | rfl | rfl | rfl | rfl | rfl | rfl | rfl | rfl | rfl
        · exact to _ (.inr (.inl rfl)) (fun _ h => by cases h)
        · exact to _ (.inr (.inr (.inl ⟨_, rfl⟩))) (fun _ h => by cases h)
        · exact to _ (.inl ⟨_, rfl⟩) (fun _ h => by cases h)
        · exact to _ (.inr (.inr (.inr ⟨_, rfl, .inl ⟨_, ((f8.trans f9).trans f10) _ _ g7⟩⟩))) (fun _ h => by cases h)
        · exact to _ (.inr (.inr (.inr ⟨_, rfl, .inr (.inl ⟨_, (f9.trans f10) _ _ g8⟩)⟩))) (fun _ h => by cases h)
        · exact to _ (.inr (.inr (.inr ⟨_, rfl, .inr (.inr ⟨_, f10 _ _ g9⟩)⟩))) (fun _ h => by cases h)
        · exact tx "" (by decide +kernel)
        · exact tx "a b" (by decide +kernel)
        · exact tx " a" (by decide +kernel)
        · exact tx "a " (by decide +kernel)
        · exact tx "9" (by decide +kernel)
        · exact tx "a\n" (by decide +kernel)
      have eB := (((eA.trans f7).trans f8).trans f9).trans f10
      walk_at "zz"
      refine ⟨.str (S l), nameOk l, rfl, .inl ⟨l, rfl, hl', rfl⟩, fun m hm => by injection hm with hm; rw [← S_inj hm]; exact ok, fun HB eC => ?_⟩
      walk_at "zz"
      refine ite_f ?_
      walk_at "zz"
      refine ⟨v, tb, rfl, hth.mono eC, hok, fun HC eD => ?_⟩
      walk_at "zz"
      refine ite_f ?_
      walk_at "zz"
      refine ⟨l, rfl, hl', RetW.mk fun u1 HD eE hu1 _ => ?_⟩
      walk_at "zz"
      refine ⟨l, rfl, hl', RetW.mk fun u2 HE eF hu2 _ => ?_⟩
      walk_at "zz"
      refine ⟨u1, u2, words l, rfl, hu1.mono eF, hu2, words_b hl' ok, fun HF eG => ?_⟩
      walk_at "zz"
      refine ite_f ?_
      walk_at "zz"
      exact ⟨_, _, _, _, _, _, _, _, _, _, rfl, ((((eB.trans eC).trans eD).trans eE).trans eF).trans eG⟩
    · obtain ⟨_, _, _, _, _, _, _, _, _, _, rfl, e4⟩ := h
      walk_at "zz"
      exact RetV.go q (e3.trans e4)
end

end K03
namespace K03
open PySem PySem.Spec PyProof.Rows L2 Z
open Evl (Ex ex_l ex_t sq_of st_of fresh_back RetL RetV)

def topS (i : Nat) : Stmt := PySem.Challenge.pw_wireyard_k03_words_of_rows.main.body.getD i (.Pass ⟨0, 0, 0, 0⟩)
abbrev s_L_mixed : Stmt := topS 15
theorem sc_L_mixed : FnScope ["_law_cell_here", "_law_k", "_law_number"] ["_law_cell_here", "_law_k"] (defScope s_L_mixed) := ⟨rfl, rfl, rfl, by decide +kernel, rfl, by decide +kernel, by decide +kernel⟩
abbrev s_L_told : Stmt := topS 17
theorem sc_L_told : FnScope [] [] (defScope s_L_told) := ⟨rfl, rfl, rfl, by decide +kernel, rfl, by decide +kernel, by decide +kernel⟩
abbrev s_L_signs : Stmt := topS 16
theorem sc_L_signs : FnScope ["_law_some"] [] (defScope s_L_signs) := ⟨rfl, rfl, rfl, by decide +kernel, rfl, by decide +kernel, by decide +kernel⟩
abbrev s_L_name : Stmt := topS 20
theorem sc_L_name : FnScope ["_law_number", "_law_letters", "_law_size", "_law_word", "_law_at", "_law_k"] ["_law_number"] (defScope s_L_name) := ⟨rfl, rfl, rfl, by decide +kernel, rfl, by decide +kernel, by decide +kernel⟩
abbrev s_L_piece : Stmt := topS 21
theorem sc_L_piece : FnScope ["_law_number", "_law_more", "_law_told_here", "_law_word", "_law_size"] ["_law_number"] (defScope s_L_piece) := ⟨rfl, rfl, rfl, by decide +kernel, rfl, by decide +kernel, by decide +kernel⟩
abbrev s_L_row : Stmt := topS 22
theorem sc_L_row : FnScope ["_law_script", "_law_first", "_law_row_here", "_law_k", "_law_cell_here", "_law_number"] ["_law_script", "_law_first"] (defScope s_L_row) := ⟨rfl, rfl, rfl, by decide +kernel, rfl, by decide +kernel, by decide +kernel⟩
abbrev s_L_run : Stmt := topS 18
theorem sc_L_run : FnScope ["_law_run_here", "_law_figures", "_law_sign"] ["_law_run_here"] (defScope s_L_run) := ⟨rfl, rfl, rfl, by decide +kernel, rfl, by decide +kernel, by decide +kernel⟩
abbrev s_L_words : Stmt := topS 19
theorem sc_L_words : FnScope ["_law_row_here", "_law_found", "_law_left", "_law_size", "_law_word"] ["_law_row_here"] (defScope s_L_words) := ⟨rfl, rfl, rfl, by decide +kernel, rfl, by decide +kernel, by decide +kernel⟩
abbrev s_p_end_of : Stmt := topS 10
theorem sc_p_end_of : FnScope ["text", "at", "end"] ["text", "at"] (defScope s_p_end_of) := ⟨rfl, rfl, rfl, by decide +kernel, rfl, by decide +kernel, by decide +kernel⟩
abbrev s_is_name : Stmt := topS 8
theorem sc_is_name : FnScope ["thing", "sign"] ["thing"] (defScope s_is_name) := ⟨rfl, rfl, rfl, by decide +kernel, rfl, by decide +kernel, by decide +kernel⟩
abbrev s_number_by : Stmt := topS 12
theorem sc_number_by : FnScope ["text", "sign"] ["text"] (defScope s_number_by) := ⟨rfl, rfl, rfl, by decide +kernel, rfl, by decide +kernel, by decide +kernel⟩
abbrev s_p_word_by : Stmt := topS 11
theorem sc_p_word_by : FnScope ["text", "number"] ["text"] (defScope s_p_word_by) := ⟨rfl, rfl, rfl, by decide +kernel, rfl, by decide +kernel, by decide +kernel⟩
abbrev s_words_of : Stmt := topS 9
theorem sc_words_of : FnScope ["row", "text", "words", "at", "end", "word"] ["row"] (defScope s_words_of) := ⟨rfl, rfl, rfl, by decide +kernel, rfl, by decide +kernel, by decide +kernel⟩
abbrev s_L_same : Stmt := topS 23
theorem sc_L_same : FnScope ["_law_found", "_law_due", "_law_one", "_law_other"] ["_law_found", "_law_due"] (defScope s_L_same) := ⟨rfl, rfl, rfl, by decide +kernel, rfl, by decide +kernel, by decide +kernel⟩
abbrev s_L_is : Stmt := topS 24
theorem sc_L_is : FnScope ["_law_thing", "_law_found", "_law_due"] ["_law_thing"] (defScope s_L_is) := ⟨rfl, rfl, rfl, by decide +kernel, rfl, by decide +kernel, by decide +kernel⟩
abbrev s_law : Stmt := topS 25
theorem sc_law : FnScope ["_law_script", "_law_first", "_law_row_here", "_law_due", "_law_turn", "_law_found", "_law_k", "_law_cell_here", "_law_number", "_law_word", "_law_odd"] ["_law_script"] (defScope s_law) := ⟨rfl, rfl, rfl, by decide +kernel, rfl, by decide +kernel, by decide +kernel⟩
structure Tx (K : PySem.W.Frag) (mg : Str → Option Value) : Prop where
  d_L_mixed : DX K mg "_law_mixed" s_L_mixed
  d_L_told : DX K mg "_law_told" s_L_told
  d_L_signs : DX K mg "_law_signs" s_L_signs
  d_L_name : DX K mg "_law_name" s_L_name
  d_L_piece : DX K mg "_law_piece" s_L_piece
  d_L_row : DX K mg "_law_row" s_L_row
  d_L_run : DX K mg "_law_run" s_L_run
  d_L_words : DX K mg "_law_words" s_L_words
  d_p_end_of : DX K mg "_end_of" s_p_end_of
  d_is_name : DX K mg "is_name" s_is_name
  d_number_by : DX K mg "number_by" s_number_by
  d_p_word_by : DX K mg "_word_by" s_p_word_by
  d_words_of : DX K mg "words_of" s_words_of
  d_L_same : DX K mg "_law_same" s_L_same
  d_L_is : DX K mg "_law_is" s_L_is
  d_law : DX K mg "law" s_law
  n_all : mg "all" = none
  n_bool : mg "bool" = none
  n_enumerate : mg "enumerate" = none
  n_int : mg "int" = none
  n_isinstance : mg "isinstance" = none
  n_len : mg "len" = none
  n_list : mg "list" = none
  n_range : mg "range" = none
  n_str : mg "str" = none
  n_tuple : mg "tuple" = none
  n_zip : mg "zip" = none
  c_FIGURES : ∃ u, mg "FIGURES" = some u ∧ RelV (.str "0123456789") u
  c_MARKS : ∃ u, mg "MARKS" = some u ∧ RelV (.ref (He.ga K "MARKS")) u
  q_MARKS : ∀ H : Hp, SqT K H (He.ga K "MARKS") [.str ":", .str ",", .str ".", .str "=", .str "==", .str "<", .str "&", .str "|", .str "^", .str "+", .str "-", .str "~", .str "(", .str ")", .str "[", .str "]"]
  c_MOST_FIGURES : ∃ u, mg "MOST_FIGURES" = some u ∧ RelV (.int 20) u
  c_MOST_NAME_SIGNS : ∃ u, mg "MOST_NAME_SIGNS" = some u ∧ RelV (.int 8) u
  c_NAME_SIGNS : ∃ u, mg "NAME_SIGNS" = some u ∧ RelV (.str "abcdefghijklmnopqrstuvwxyz0123456789") u
  c_SMALL_LETTERS : ∃ u, mg "SMALL_LETTERS" = some u ∧ RelV (.str "abcdefghijklmnopqrstuvwxyz") u
  c_TOLD_WORDS : ∃ u, mg "TOLD_WORDS" = some u ∧ RelV (.ref (He.ga K "TOLD_WORDS")) u
  q_TOLD_WORDS : ∀ H : Hp, SqT K H (He.ga K "TOLD_WORDS") [.str "part", .str "in", .str "out", .str "wire", .str "rest", .str "let", .str "use", .str "table", .str "memory", .str "if", .str "then", .str "else", .str "cut", .str "join", .str "fill"]
section
variable {P : Program} {w : World} {K : PySem.W.Frag} {mg : Str → Option Value} {base : Heap}
theorem ok_L_mixed (T : Tx K mg) : Cal P w K mg base 1 "_law_mixed" sp_L_mixed :=
  cal_mk (t := rd_L_mixed) T.d_L_mixed sc_L_mixed (fun _ _ _ _ _ _ us hl => match us, hl with | [_, _], _ => rfl) len_L_mixed
    (fun f cdv A outer s H E hr => (pss_cons (ps_set (i := 2) sc_L_mixed.nd rfl (.inl rfl) (pe_op op_mod (pe_op op_mul (pe_op op_add (pe_op op_add (pe_op op_mod (pv 0) pe_int) (pe_op op_mul (pe_op op_mul pe_int (pv 1)) (pv 1))) pe_int) pe_int) pe_int))
    (pss_one (ps_ret (pe_op op_mod (pe_op op_mul (pv 2) (pe_op op_add pe_int (pe_op op_mul pe_int (pv 1)))) pe_int)))))
    (fun vs H Q E h => vr_L_mixed vs H Q E h)
theorem ok_L_told (T : Tx K mg) : Cal P w K mg base 1 "_law_told" sp_L_told :=
  cal_mk (t := (rd_L_told K)) T.d_L_told sc_L_told (fun _ _ _ _ _ _ us hl => match us, hl with | [], _ => rfl) len_L_told
    (fun f cdv A outer s H E hr => (pss_one (ps_ret (pe_bm PySem.F.plainAttrs_str PySem.F.slot_str_split PySem.F.type_str_split mt_split pe_str (pa_cons pe_str pa_nil)))))
    (fun vs H Q E h => vr_L_told vs H Q E h)
theorem ok_L_signs (T : Tx K mg) : Cal P w K mg base 1 "_law_signs" sp_L_signs :=
  cal_mk (t := rd_L_signs) T.d_L_signs sc_L_signs (fun _ _ _ _ _ _ us hl => match us, hl with | [], _ => rfl) len_L_signs
    (fun f cdv A outer s H E hr => (pss_cons (ps_set (i := 0) sc_L_signs.nd rfl (.inl rfl) pe_str)
    (pss_one (ps_ret (pe_op op_add_str (pv 0) pe_str)))))
    (fun vs H Q E h => vr_L_signs vs H Q E h)
theorem ok_L_name (T : Tx K mg) : Cal P w K mg base 2 "_law_name" sp_L_name :=
  cal_mk (t := (rd_L_name K)) T.d_L_name sc_L_name (fun _ _ _ _ _ _ us hl => match us, hl with | [_], _ => rfl) len_L_name
    (fun f cdv A outer s H E hr => (pss_cons (ps_set (i := 1) sc_L_name.nd rfl (.inr rfl) pe_str)
    (pss_cons (ps_set (i := 2) sc_L_name.nd rfl (.inl rfl) (pe_op op_add pe_int (pe_op op_mod (pv 0) pe_int)))
    (pss_cons (ps_set (i := 3) sc_L_name.nd rfl (.inl rfl) (pe_ix ix_str (pv 1) (pe_op op_mod (pe_op op_fdiv (pv 0) pe_int) pe_int) (fun _ _ => rfl)))
    (pss_cons (ps_set (i := 3) sc_L_name.nd rfl (.inl rfl) (pe_op op_add_str (pv 3) (pe_bm PySem.F.plainAttrs_str PySem.F.slot_str_join PySem.F.type_str_join mt_join pe_str (pa_cons (pe_lc (own := [("_law_k", 5)]) (g := (gName 5)) (tt := tYes) rfl sc_L_name.nd (pi_range1 (by rfl) T.n_range (pa_cons (pe_op op_sub (pv 2) pe_int) pa_nil)) (blkOk_by (N := ["_law_number", "_law_letters", "_law_size", "_law_word", "_law_at", "_law_k"]) (sc := defScope s_L_name) (by decide +kernel)) (fun _ _ _ _ _ => (pg_name (i := 5) sc_L_name.nd rfl (.inl rfl))) (fun _ _ _ _ _ => pts_nil) (fun _ _ _ _ _ => (pe_ix ix_str (pe_op op_add_str (pv 1) pe_str) (pe_op op_mod (pe_op op_fdiv (pe_c (ok_L_mixed T) hr (by decide) (by rfl) (pa_cons (pv 0) (pa_cons (pv 5) pa_nil))) pe_int) pe_int) (fun _ _ => rfl)))) pa_nil))))
    (pss_cons (ps_set (i := 4) sc_L_name.nd rfl (.inl rfl) (pe_op op_mod (pe_op op_fdiv (pv 0) pe_int) (pv 2)))
    (pss_cons (ps_if (pt_cmpR op_eq (pe_op op_mod (pe_op op_fdiv (pv 0) pe_int) pe_int) pe_int (nomark _)) (pss_one (ps_ret (pe_op op_add_str (pe_op op_add_str (pe_slice sl_str (pv 3) po_none (po_some (pv 4))) (pe_ix ix_str (pe_c0 (ok_L_signs T) hr (by decide) (by rfl)) (pe_op op_mod (pe_op op_fdiv (pv 0) pe_int) pe_int) (fun _ _ => rfl))) (pe_slice sl_str (pv 3) (po_some (pe_op op_add (pv 4) pe_int)) po_none))))
    pss_nil)
    (pss_one (ps_ret (pv 3))))))))))
    (fun vs H Q E h => vr_L_name vs H Q E h)
theorem ok_L_piece (T : Tx K mg) : Cal P w K mg base 3 "_law_piece" sp_L_piece :=
  cal_mk (t := (rd_L_piece K)) T.d_L_piece sc_L_piece (fun _ _ _ _ _ _ us hl => match us, hl with | [_], _ => rfl) len_L_piece
    (fun f cdv A outer s H E hr => (pss_cons (ps_set (i := 1) sc_L_piece.nd rfl (.inl rfl) (pe_op op_fdiv (pv 0) pe_int))
    (pss_cons (ps_set (i := 2) sc_L_piece.nd rfl (.inl rfl) (pe_c0 (ok_L_told T) hr (by decide) (by rfl)))
    (pss_cons (ps_if (pt_cmpR op_lt (pe_op op_mod (pv 0) pe_int) pe_int (nomark _)) (pss_one (ps_ret (pe_c (ok_L_name T) hr (by decide) (by rfl) (pa_cons (pv 1) pa_nil))))
    pss_nil)
    (pss_cons (ps_if (pt_cmpR op_eq (pe_op op_mod (pv 0) pe_int) pe_int (nomark _)) (pss_one (ps_ret (pe_ix ix_list (pv 2) (pe_op op_mod (pv 1) pe_int) (fun _ _ => rfl))))
    pss_nil)
    (pss_cons (ps_if (pt_cmpR op_eq (pe_op op_mod (pv 0) pe_int) pe_int (nomark _)) (pss_cons (ps_set (i := 3) sc_L_piece.nd rfl (.inl rfl) (pe_ix ix_list (pv 2) (pe_op op_mod (pv 1) pe_int) (fun _ _ => rfl)))
    (pss_one (ps_ret (pe_ix ix_list (pe_lst (pa_cons (pe_op op_add_str (pv 3) pe_str) (pa_cons (pe_slice sl_str (pv 3) po_none (po_some (pe_un un_neg pe_int))) (pa_cons (pe_op op_add_str pe_str (pv 3)) (pa_cons (pe_op op_add_str (pv 3) pe_str) (pa_cons (pe_bm0 PySem.F.plainAttrs_str PySem.F.slot_str_upper PySem.F.type_str_upper mt_upper (pv 3)) (pa_cons (pe_op op_add_str (pv 3) (pv 3)) pa_nil))))))) (pe_op op_mod (pe_op op_fdiv (pv 1) pe_int) pe_int) (fun _ _ => rfl)))))
    pss_nil)
    (pss_cons (ps_if (pt_cmpR op_eq (pe_op op_mod (pv 0) pe_int) pe_int (nomark _)) (pss_cons (ps_set (i := 4) sc_L_piece.nd rfl (.inl rfl) (pe_ix ix_list (pe_lst (pa_cons (pe_op op_add pe_int (pe_op op_mod (pv 1) pe_int)) (pa_cons (pe_op op_add pe_int (pe_op op_mod (pv 1) pe_int)) (pa_cons (pe_op op_add pe_int (pe_op op_mod (pv 1) pe_int)) pa_nil)))) (pe_op op_mod (pe_op op_fdiv (pv 1) pe_int) pe_int) (fun _ _ => rfl)))
    (pss_one (ps_ret (pe_op op_add_str (pe_ix ix_list (pe_lst (pa_cons pe_str (pa_cons pe_str (pa_cons pe_str (pa_cons pe_str pa_nil))))) (pe_op op_mod (pe_op op_fdiv (pv 1) pe_int) pe_int) (fun _ _ => rfl)) (pe_slice sl_str (pe_callTy call_str_int (by rfl) T.n_str (by decide +kernel) (pa_cons (pe_op op_add (pe_op op_pow pe_int pe_int) (pe_op op_mod (pe_op op_mul (pv 1) (pe_op op_pow pe_int pe_int)) (pe_op op_pow pe_int pe_int))) pa_nil)) (po_some pe_int) (po_some (pe_op op_add pe_int (pv 4))))))))
    pss_nil)
    (pss_cons (ps_if (pt_cmpR op_lt (pe_op op_mod (pv 0) pe_int) pe_int (nomark _)) (pss_one (ps_ret (pe_ix ix_list (pe_bm PySem.F.plainAttrs_str PySem.F.slot_str_split PySem.F.type_str_split mt_split pe_str (pa_cons pe_str pa_nil)) (pe_op op_mod (pv 1) pe_int) (fun _ _ => rfl))))
    pss_nil)
    (pss_one (ps_ret (pe_ix ix_list (pe_lst (pa_cons (pe_ix ix_str (pe_c0 (ok_L_signs T) hr (by decide) (by rfl)) (pe_op op_mod (pv 1) pe_int) (fun _ _ => rfl)) (pa_cons pe_str (pa_cons pe_str (pa_cons pe_str pa_nil))))) (pe_op op_mod (pe_op op_mod (pe_op op_fdiv (pv 1) pe_int) pe_int) pe_int) (fun _ _ => rfl))))))))))))
    (fun vs H Q E h => vr_L_piece vs H Q E h)
theorem ok_L_row (T : Tx K mg) : Cal P w K mg base 4 "_law_row" (sp_L_row K) :=
  cal_mk (t := (rd_L_row K)) T.d_L_row sc_L_row (fun _ _ _ _ _ _ us hl => match us, hl with | [_, _], _ => rfl) len_L_row
    (fun f cdv A outer s H E hr => (pss_cons (ps_set (i := 2) sc_L_row.nd rfl (.inl rfl) pe_str)
    (pss_cons (ps_for PassesOwn.never rfl (pi_enum (by rfl) T.n_enumerate (pa_cons (pe_slice sl_list (pv 0) (po_some (pv 1)) (po_some (pe_op op_add (pv 1) pe_int))) pa_nil)) (pg_tup rfl (pgs_cons (pg_name (i := 3) sc_L_row.nd rfl (.inl rfl)) (pgs_cons (pg_name (i := 4) sc_L_row.nd rfl (.inl rfl)) pgs_nil))) (pss_cons (ps_set (i := 5) sc_L_row.nd rfl (.inl rfl) (pe_c (ok_L_mixed T) hr (by decide) (by rfl) (pa_cons (pv 4) (pa_cons (pv 3) pa_nil))))
    (pss_one (ps_set (i := 2) sc_L_row.nd rfl (.inl rfl) (pe_op op_add_str (pe_op op_add_str (pv 2) (pe_c (ok_L_piece T) hr (by decide) (by rfl) (pa_cons (pe_op op_fdiv (pv 5) pe_int) pa_nil))) (pe_op op_mul_str pe_str (pe_callTy call_int1 (by rfl) T.n_int (by decide +kernel) (pa_cons (pe_cmpR op_gt (pe_op op_mod (pv 5) pe_int) pe_int (nomark _)) pa_nil))))))))
    (pss_one (ps_ret (pv 2))))))
    (fun vs H Q E h => vr_L_row vs H Q E h)
theorem ok_L_run (T : Tx K mg) : Cal P w K mg base 2 "_law_run" (sp_L_run K) :=
  cal_mk (t := (rd_L_run K)) T.d_L_run sc_L_run (fun _ _ _ _ _ _ us hl => match us, hl with | [_], _ => rfl) len_L_run
    (fun f cdv A outer s H E hr => (pss_cons (ps_if (pt_cmpR op_in_seq (pv 0) (pe_c0 (ok_L_told T) hr (by decide) (by rfl)) (by with_unfolding_all rfl)) (pss_one (ps_ret (pe_tup (pa_cons pe_str (pa_cons (pv 0) pa_nil)))))
    pss_nil)
    (pss_cons (ps_setLc (i := 1) (own := [("_law_sign", 2)]) (g := (gName 2)) (tt := (tTest (tOp rInSgn (tVar 2) (tC (.str "0123456789"))))) rfl sc_L_run.nd rfl rfl (sw_true rfl rfl rfl (by decide +kernel)) (pi_str (pv 0)) (blkOk_by (N := ["_law_run_here", "_law_figures", "_law_sign"]) (sc := defScope s_L_run) (by decide +kernel)) (fun _ _ _ _ _ => (pg_name (i := 2) sc_L_run.nd rfl (.inl rfl))) (fun _ _ _ _ _ => (pts_one (pt_cmpR op_in_sign (pv 2) pe_str (by with_unfolding_all rfl)))) (fun _ _ _ _ _ => (pv 2)))
    (pss_cons (ps_if (pt_cmpR op_eq (pe_callB call_len_seq (by rfl) T.n_len (by decide +kernel) (pa_cons (pv 1) pa_nil)) (pe_callB call_len_str (by rfl) T.n_len (by decide +kernel) (pa_cons (pv 0) pa_nil)) (nomark _)) (pss_cons (ps_if (PW.pt (pw_or (pt_cmpR op_gt (pe_callB call_len_str (by rfl) T.n_len (by decide +kernel) (pa_cons (pv 0) pa_nil)) pe_int (nomark _)) (pw_or1 (PW.pt (pw_and (pt_cmpR op_eq (pe_ix ix_str (pv 0) pe_int (fun _ _ => rfl)) pe_str (nomark _)) (pw_and1 (pt_cmpR op_ne (pv 0) pe_str (nomark _)))))))) (pss_one (ps_ret pe_non))
    pss_nil)
    (pss_one (ps_ret (pe_tup (pa_cons pe_str (pa_cons (pe_callTy call_int_str (by rfl) T.n_int (by decide +kernel) (pa_cons (pv 0) pa_nil)) pa_nil))))))
    pss_nil)
    (pss_cons (ps_if (PW.pt (pw_or (pt_cmpR op_in_sign (pe_ix ix_str (pv 0) pe_int (fun _ _ => rfl)) pe_str (by with_unfolding_all rfl)) (pw_or1 (pt_cmpR op_gt (pe_callB call_len_str (by rfl) T.n_len (by decide +kernel) (pa_cons (pv 0) pa_nil)) pe_int (nomark _))))) (pss_one (ps_ret pe_non))
    pss_nil)
    (pss_one (ps_ret (pe_tup (pa_cons pe_str (pa_cons (pv 0) pa_nil))))))))))
    (fun vs H Q E h => vr_L_run vs H Q E h)
theorem ok_L_words (T : Tx K mg) : Cal P w K mg base 3 "_law_words" (sp_L_words K) :=
  cal_mk (t := (rd_L_words K)) T.d_L_words sc_L_words (fun _ _ _ _ _ _ us hl => match us, hl with | [_], _ => rfl) len_L_words
    (fun f cdv A outer s H E hr => (pss_cons (ps_set (i := 1) sc_L_words.nd rfl (.inl rfl) (pe_lst pa_nil))
    (pss_cons (ps_set (i := 2) sc_L_words.nd rfl (.inl rfl) (pv 0))
    (pss_cons (ps_while PassesOwn.never (PW.pt (pw_and (pt_cmpR op_ne (pv 2) pe_str (nomark _)) (pw_and1 (pt_cmpR op_ne (pe_ix ix_str (pv 2) pe_int (fun _ _ => rfl)) pe_str (nomark _))))) (pss_cons (ps_set (i := 3) sc_L_words.nd rfl (.inl rfl) pe_int)
    (pss_cons (ps_while PassesOwn.never (PW.pt (pw_and (pt_cmpR op_lt (pv 3) (pe_callB call_len_str (by rfl) T.n_len (by decide +kernel) (pa_cons (pv 2) pa_nil)) (nomark _)) (pw_and1 (pt_cmpR op_in_sign (pe_ix ix_str (pv 2) (pv 3) (fun _ _ => rfl)) pe_str (by with_unfolding_all rfl))))) (pss_one (ps_set (i := 3) sc_L_words.nd rfl (.inl rfl) (pe_op op_add (pv 3) pe_int))))
    (pss_cons (ps_set (i := 4) sc_L_words.nd rfl (.inl rfl) pe_non)
    (pss_cons (ps_if (pt_cmpR op_eq (pe_ix ix_str (pv 2) pe_int (fun _ _ => rfl)) pe_str (nomark _)) (pss_cons (ps_set (i := 2) sc_L_words.nd rfl (.inl rfl) (pe_slice sl_str (pv 2) (po_some pe_int) po_none))
    (pss_one ps_continue))
    pss_nil)
    (pss_cons (ps_if (pt_cmpR op_gt (pv 3) pe_int (nomark _)) (pss_one (ps_set (i := 4) sc_L_words.nd rfl (.inl rfl) (pe_c (ok_L_run T) hr (by decide) (by rfl) (pa_cons (pe_slice sl_str (pv 2) po_none (po_some (pv 3))) pa_nil))))
    (pss_one (ps_if (pt_cmpR op_eq (pe_slice sl_str (pv 2) po_none (po_some pe_int)) pe_str (nomark _)) (pss_cons (ps_set (i := 3) sc_L_words.nd rfl (.inl rfl) pe_int)
    (pss_one (ps_set (i := 4) sc_L_words.nd rfl (.inl rfl) (pe_tup (pa_cons pe_str (pa_cons pe_str pa_nil))))))
    (pss_one (ps_if (pt_cmpR op_in_sign (pe_ix ix_str (pv 2) pe_int (fun _ _ => rfl)) pe_str (by with_unfolding_all rfl)) (pss_cons (ps_set (i := 3) sc_L_words.nd rfl (.inl rfl) pe_int)
    (pss_one (ps_set (i := 4) sc_L_words.nd rfl (.inl rfl) (pe_tup (pa_cons pe_str (pa_cons (pe_ix ix_str (pv 2) pe_int (fun _ _ => rfl)) pa_nil))))))
    pss_nil)))))
    (pss_cons (ps_if (pt_cmp (pc_isN (pv 4))) (pss_one (ps_ret pe_non))
    pss_nil)
    (pss_cons (ps_expr (pe_bm PySem.F.plainAttrs_list PySem.F.slot_list_append PySem.F.type_list_append mt_append (pv 1) (pa_cons (pv 4) pa_nil)))
    (pss_one (ps_set (i := 2) sc_L_words.nd rfl (.inl rfl) (pe_slice sl_str (pv 2) (po_some (pv 3)) po_none)))))))))))
    (pss_one (ps_ret (pv 1)))))))
    (fun vs H Q E h => vr_L_words vs H Q E h)
theorem ok_p_end_of (T : Tx K mg) : Cal P w K mg base 1 "_end_of" sp_p_end_of :=
  cal_mk (t := rd_p_end_of) T.d_p_end_of sc_p_end_of (fun _ _ _ _ _ _ us hl => match us, hl with | [_, _], _ => rfl) len_p_end_of
    (fun f cdv A outer s H E hr => (pss_cons (ps_set (i := 2) sc_p_end_of.nd rfl (.inl rfl) (pv 1))
    (pss_cons (ps_while PassesOwn.never (PW.pt (pw_and (pt_cmpR op_lt (pv 2) (pe_callB call_len_str (by rfl) T.n_len (by decide +kernel) (pa_cons (pv 0) pa_nil)) (nomark _)) (pw_and1 (pt_cmpR op_in_sign (pe_ix ix_str (pv 0) (pv 2) (fun _ _ => rfl)) (pe_gc (by rfl) T.c_NAME_SIGNS) (by with_unfolding_all rfl))))) (pss_one (ps_aug (i := 2) sc_p_end_of.nd rfl (.inl rfl) pe_int ip_add)))
    (pss_cons (ps_if (pt_cmpR op_gt (pv 2) (pv 1) (nomark _)) (pss_one (ps_ret (pv 2)))
    pss_nil)
    (pss_cons (ps_if (pt_cmpR op_eq (pe_slice sl_str (pv 0) (po_some (pv 1)) (po_some (pe_op op_add (pv 1) pe_int))) pe_str (nomark _)) (pss_one (ps_ret (pe_op op_add (pv 1) pe_int)))
    pss_nil)
    (pss_one (ps_ret (pe_op op_add (pv 1) pe_int))))))))
    (fun vs H Q E h => vr_p_end_of vs H Q E h)
theorem ok_is_name (T : Tx K mg) : Cal P w K mg base 1 "is_name" (sp_is_name K) :=
  cal_mk (t := (rd_is_name K)) T.d_is_name sc_is_name (fun _ _ _ _ _ _ us hl => match us, hl with | [_], _ => rfl) len_is_name
    (fun f cdv A outer s H E hr => (pss_cons (ps_if (PW.pt (pw_or (pt_not (pt_truth (pe_callB call_isi (by rfl) T.n_isinstance (by decide +kernel) (pa_cons (pv 0) (pa_cons (pe_bltn (by rfl) T.n_str (by decide +kernel) rfl) pa_nil))) (by intro _; rfl))) (pw_or1 (pt_not (pt_chain op_le op_le pe_int (pe_callB call_len_str (by rfl) T.n_len (by decide +kernel) (pa_cons (pv 0) pa_nil)) (pe_gc (by rfl) T.c_MOST_NAME_SIGNS)))))) (pss_one (ps_ret pe_bl))
    pss_nil)
    (pss_cons (ps_if (PW.pt (pw_or (pt_cmpR op_notIn_sign (pe_ix ix_str (pv 0) pe_int (fun _ _ => rfl)) (pe_gc (by rfl) T.c_SMALL_LETTERS) (by with_unfolding_all rfl)) (pw_or1 (pt_cmpR op_in_seq (pv 0) (pe_gc (by rfl) T.c_TOLD_WORDS) (by with_unfolding_all rfl))))) (pss_one (ps_ret pe_bl))
    pss_nil)
    (pss_one (ps_ret (pe_callB (cr_all rfl) (by rfl) T.n_all (by decide +kernel) (pa_cons (pe_lc (own := [("sign", 1)]) (g := (gName 1)) (tt := tYes) rfl sc_is_name.nd (pi_str (pv 0)) (blkOk_by (N := ["thing", "sign"]) (sc := defScope s_is_name) (by decide +kernel)) (fun _ _ _ _ _ => (pg_name (i := 1) sc_is_name.nd rfl (.inl rfl))) (fun _ _ _ _ _ => pts_nil) (fun _ _ _ _ _ => (pe_cmpR op_in_sign (pv 1) (pe_gc (by rfl) T.c_NAME_SIGNS) (by with_unfolding_all rfl)))) pa_nil)))))))
    (fun vs H Q E h => vr_is_name T.q_TOLD_WORDS vs H Q E h)
theorem ok_number_by (T : Tx K mg) : Cal P w K mg base 1 "number_by" sp_number_by :=
  cal_mk (t := (rd_number_by K)) T.d_number_by sc_number_by (fun _ _ _ _ _ _ us hl => match us, hl with | [_], _ => rfl) len_number_by
    (fun f cdv A outer s H E hr => (pss_cons (ps_if (PW.pt (pw_or (pt_not (pt_chain op_le op_le pe_int (pe_callB call_len_str (by rfl) T.n_len (by decide +kernel) (pa_cons (pv 0) pa_nil)) (pe_gc (by rfl) T.c_MOST_FIGURES))) (pw_or1 (PW.pt (pw_and (pt_cmpR op_eq (pe_ix ix_str (pv 0) pe_int (fun _ _ => rfl)) pe_str (nomark _)) (pw_and1 (pt_cmpR op_ne (pv 0) pe_str (nomark _)))))))) (pss_one (ps_ret pe_non))
    pss_nil)
    (pss_one (ps_ret (pe_ifExp (pt_truth (pe_callB (cr_all rfl) (by rfl) T.n_all (by decide +kernel) (pa_cons (pe_lc (own := [("sign", 1)]) (g := (gName 1)) (tt := tYes) rfl sc_number_by.nd (pi_str (pv 0)) (blkOk_by (N := ["text", "sign"]) (sc := defScope s_number_by) (by decide +kernel)) (fun _ _ _ _ _ => (pg_name (i := 1) sc_number_by.nd rfl (.inl rfl))) (fun _ _ _ _ _ => pts_nil) (fun _ _ _ _ _ => (pe_cmpR op_in_sign (pv 1) (pe_gc (by rfl) T.c_FIGURES) (by with_unfolding_all rfl)))) pa_nil)) (by intro _; rfl)) (pe_callTy call_int_str (by rfl) T.n_int (by decide +kernel) (pa_cons (pv 0) pa_nil)) pe_non)))))
    (fun vs H Q E h => vr_number_by vs H Q E h)
theorem ok_p_word_by (T : Tx K mg) : Cal P w K mg base 2 "_word_by" (sp_p_word_by K) :=
  cal_mk (t := (rd_p_word_by K)) T.d_p_word_by sc_p_word_by (fun _ _ _ _ _ _ us hl => match us, hl with | [_], _ => rfl) len_p_word_by
    (fun f cdv A outer s H E hr => (pss_cons (ps_if (pt_cmpR op_in_seq (pv 0) (pe_gc (by rfl) T.c_TOLD_WORDS) (by with_unfolding_all rfl)) (pss_one (ps_ret (pe_tup (pa_cons pe_str (pa_cons (pv 0) pa_nil)))))
    pss_nil)
    (pss_cons (ps_if (pt_cmpR op_in_seq (pv 0) (pe_gc (by rfl) T.c_MARKS) (by with_unfolding_all rfl)) (pss_one (ps_ret (pe_tup (pa_cons pe_str (pa_cons (pv 0) pa_nil)))))
    pss_nil)
    (pss_cons (ps_if (pt_truth (pe_c (ok_is_name T) hr (by decide) (by rfl) (pa_cons (pv 0) pa_nil)) (by intro _; rfl)) (pss_one (ps_ret (pe_tup (pa_cons pe_str (pa_cons (pv 0) pa_nil)))))
    pss_nil)
    (pss_cons (ps_set (i := 1) sc_p_word_by.nd rfl (.inl rfl) (pe_c (ok_number_by T) hr (by decide) (by rfl) (pa_cons (pv 0) pa_nil)))
    (pss_one (ps_ret (pe_ifExp (pt_cmp (pc_isN (pv 1))) pe_non (pe_tup (pa_cons pe_str (pa_cons (pv 1) pa_nil)))))))))))
    (fun vs H Q E h => vr_p_word_by T.q_MARKS T.q_TOLD_WORDS vs H Q E h)
theorem ok_words_of (T : Tx K mg) : Cal P w K mg base 3 "words_of" (sp_words_of K) :=
  cal_mk (t := (rd_words_of K)) T.d_words_of sc_words_of (fun _ _ _ _ _ _ us hl => match us, hl with | [_], _ => rfl) len_words_of
    (fun f cdv A outer s H E hr => (pss_cons (ps_set (i := 1) sc_words_of.nd rfl (.inl rfl) (pe_ix ix_tup (pe_bm PySem.F.plainAttrs_str PySem.F.slot_str_partition PySem.F.type_str_partition mt_partition (pv 0) (pa_cons pe_str pa_nil)) pe_int (fun _ _ => rfl)))
    (pss_cons (ps_set (i := 2) sc_words_of.nd rfl (.inl rfl) (pe_lst pa_nil))
    (pss_cons (ps_set (i := 3) sc_words_of.nd rfl (.inl rfl) pe_int)
    (pss_cons (ps_while PassesOwn.never (pt_cmpR op_lt (pv 3) (pe_callB call_len_str (by rfl) T.n_len (by decide +kernel) (pa_cons (pv 1) pa_nil)) (nomark _)) (pss_cons (ps_set (i := 4) sc_words_of.nd rfl (.inl rfl) (pe_c (ok_p_end_of T) hr (by decide) (by rfl) (pa_cons (pv 1) (pa_cons (pv 3) pa_nil))))
    (pss_cons (ps_if (pt_cmpR op_ne (pe_ix ix_str (pv 1) (pv 3) (fun _ _ => rfl)) pe_str (nomark _)) (pss_cons (ps_set (i := 5) sc_words_of.nd rfl (.inl rfl) (pe_c (ok_p_word_by T) hr (by decide) (by rfl) (pa_cons (pe_slice sl_str (pv 1) (po_some (pv 3)) (po_some (pv 4))) pa_nil)))
    (pss_cons (ps_if (pt_cmp (pc_isN (pv 5))) (pss_one (ps_ret pe_non))
    pss_nil)
    (pss_one (ps_expr (pe_bm PySem.F.plainAttrs_list PySem.F.slot_list_append PySem.F.type_list_append mt_append (pv 2) (pa_cons (pv 5) pa_nil))))))
    pss_nil)
    (pss_one (ps_set (i := 3) sc_words_of.nd rfl (.inl rfl) (pv 4))))))
    (pss_one (ps_ret (pv 2))))))))
    (fun vs H Q E h => vr_words_of vs H Q E h)
theorem ok_L_same (T : Tx K mg) : Cal P w K mg base 1 "_law_same" (sp_L_same K) :=
  cal_mk (t := (rd_L_same K)) T.d_L_same sc_L_same (fun _ _ _ _ _ _ us hl => match us, hl with | [_, _], _ => rfl) len_L_same
    (fun f cdv A outer s H E hr => (pss_cons (ps_if (pt_cmp (pc_isN (pv 1))) (pss_one (ps_ret (pe_cmp (pc_isN (pv 0)))))
    pss_nil)
    (pss_cons (ps_if (PW.pt (pw_or (pt_not (pt_truth (pe_callB call_isi (by rfl) T.n_isinstance (by decide +kernel) (pa_cons (pv 0) (pa_cons (pe_bltn (by rfl) T.n_list (by decide +kernel) rfl) pa_nil))) (by intro _; rfl))) (pw_or1 (pt_cmpR op_ne (pe_callB call_len_seq (by rfl) T.n_len (by decide +kernel) (pa_cons (pv 0) pa_nil)) (pe_callB call_len_seq (by rfl) T.n_len (by decide +kernel) (pa_cons (pv 1) pa_nil)) (nomark _))))) (pss_one (ps_ret pe_bl))
    pss_nil)
    (pss_cons (ps_for PassesOwn.never rfl (pi_zip (by rfl) T.n_zip (pa_cons (pv 0) (pa_cons (pv 1) pa_nil))) (pg_tup rfl (pgs_cons (pg_name (i := 2) sc_L_same.nd rfl (.inl rfl)) (pgs_cons (pg_name (i := 3) sc_L_same.nd rfl (.inl rfl)) pgs_nil))) (pss_one (ps_if (PW.pt (pw_or (pt_not (pt_truth (pe_callB call_isi (by rfl) T.n_isinstance (by decide +kernel) (pa_cons (pv 2) (pa_cons (pe_bltn (by rfl) T.n_tuple (by decide +kernel) rfl) pa_nil))) (by intro _; rfl))) (pw_or (pt_cmpR (op_neD (hu64 hr)) (pv 2) (pv 3) (nomark _)) (pw_or1 (pt_truth (pe_callB call_isi (by rfl) T.n_isinstance (by decide +kernel) (pa_cons (pe_ix ix_tup (pv 2) pe_int (fun _ _ => rfl)) (pa_cons (pe_bltn (by rfl) T.n_bool (by decide +kernel) rfl) pa_nil))) (by intro _; rfl)))))) (pss_one (ps_ret pe_bl))
    pss_nil)))
    (pss_one (ps_ret pe_bl))))))
    (fun vs H Q E h => vr_L_same vs H Q E h)
theorem ok_L_is (T : Tx K mg) : Cal P w K mg base 4 "_law_is" (sp_L_is K) :=
  cal_mk (t := (rd_L_is K)) T.d_L_is sc_L_is (fun _ _ _ _ _ _ us hl => match us, hl with | [_], _ => rfl) len_L_is
    (fun f cdv A outer s H E hr => (pss_cons (ps_set (i := 1) sc_L_is.nd rfl (.inl rfl) (pe_c (ok_is_name T) hr (by decide) (by rfl) (pa_cons (pv 0) pa_nil)))
    (pss_cons (ps_set (i := 2) sc_L_is.nd rfl (.inl rfl) (pe_andT (pe_callB call_isi (by rfl) T.n_isinstance (by decide +kernel) (pa_cons (pv 0) (pa_cons (pe_bltn (by rfl) T.n_str (by decide +kernel) rfl) pa_nil))) (pe_one (pe_cmpR (op_eqD (hu64 hr)) (pe_c (ok_L_words T) hr (by decide) (by rfl) (pa_cons (pv 0) pa_nil)) (pe_lst (pa_cons (pe_tup (pa_cons pe_str (pa_cons (pv 0) pa_nil))) pa_nil)) (nomark _)))))
    (pss_one (ps_ret (pe_andT (pe_callB call_isi (by rfl) T.n_isinstance (by decide +kernel) (pa_cons (pv 1) (pa_cons (pe_bltn (by rfl) T.n_bool (by decide +kernel) rfl) pa_nil))) (pe_one (pe_cmpR op_eq (pv 1) (pv 2) (nomark _)))))))))
    (fun vs H Q E h => vr_L_is vs H Q E h)
theorem ok_law (T : Tx K mg) : Cal P w K mg base 5 "law" (sp_law K) :=
  cal_mk (t := (rd_law K)) T.d_law sc_law (fun _ _ _ _ _ _ us hl => match us, hl with | [_], _ => rfl) len_law
    (fun f cdv A outer s H E hr => (pss_cons (ps_for PassesOwn.never rfl (pi_tup (pe_tup (pa_cons pe_int (pa_cons pe_int pa_nil)))) (pg_name (i := 1) sc_law.nd rfl (.inl rfl)) (pss_cons (ps_set (i := 2) sc_law.nd rfl (.inl rfl) (pe_c (ok_L_row T) hr (by decide) (by rfl) (pa_cons (pv 0) (pa_cons (pv 1) pa_nil))))
    (pss_cons (ps_set (i := 3) sc_law.nd rfl (.inl rfl) (pe_c (ok_L_words T) hr (by decide) (by rfl) (pa_cons (pv 2) pa_nil)))
    (pss_one (ps_for PassesOwn.never rfl (pi_range1 (by rfl) T.n_range (pa_cons pe_int pa_nil)) (pg_name (i := 4) sc_law.nd rfl (.inl rfl)) (pss_cons (ps_set (i := 5) sc_law.nd rfl (.inl rfl) (pe_c (ok_words_of T) hr (by decide) (by rfl) (pa_cons (pv 2) pa_nil)))
    (pss_cons (ps_if (pt_not (pt_truth (pe_c (ok_L_same T) hr (by decide) (by rfl) (pa_cons (pv 5) (pa_cons (pv 3) pa_nil))) (by intro _; rfl))) (pss_one (ps_ret pe_bl))
    pss_nil)
    (pss_one (ps_if (pt_truth (pe_callB call_isi (by rfl) T.n_isinstance (by decide +kernel) (pa_cons (pv 5) (pa_cons (pe_bltn (by rfl) T.n_list (by decide +kernel) rfl) pa_nil))) (by intro _; rfl)) (pss_one (ps_expr (pe_bm PySem.F.plainAttrs_list PySem.F.slot_list_append PySem.F.type_list_append mt_append (pv 5) (pa_cons (pe_tup (pa_cons pe_str (pa_cons pe_str pa_nil))) pa_nil))))
    pss_nil)))))))))
    (pss_cons (ps_for PassesOwn.never rfl (pi_enum (by rfl) T.n_enumerate (pa_cons (pe_op op_cat (pe_slice sl_list (pv 0) po_none (po_some pe_int)) (pe_lst (pa_cons pe_int pa_nil))) pa_nil)) (pg_tup rfl (pgs_cons (pg_name (i := 6) sc_law.nd rfl (.inl rfl)) (pgs_cons (pg_name (i := 7) sc_law.nd rfl (.inl rfl)) pgs_nil))) (pss_cons (ps_set (i := 8) sc_law.nd rfl (.inl rfl) (pe_c (ok_L_mixed T) hr (by decide) (by rfl) (pa_cons (pv 7) (pa_cons (pe_op op_add pe_int (pe_op op_mod (pv 6) pe_int)) pa_nil))))
    (pss_cons (ps_set (i := 9) sc_law.nd rfl (.inl rfl) (pe_ix ix_list (pe_lst (pa_cons (pe_c (ok_L_name T) hr (by decide) (by rfl) (pa_cons (pe_op op_fdiv (pv 8) pe_int) pa_nil)) (pa_cons (pe_c (ok_L_piece T) hr (by decide) (by rfl) (pa_cons (pe_op op_fdiv (pv 8) pe_int) pa_nil)) pa_nil))) (pe_op op_mod (pv 8) pe_int) (fun _ _ => rfl)))
    (pss_cons (ps_set (i := 10) sc_law.nd rfl (.inl rfl) (pe_ix ix_list (pe_lst (pa_cons pe_non (pa_cons pe_int (pa_cons pe_bl (pa_cons (pe_lst (pa_cons pe_str pa_nil)) (pa_cons (pe_tup (pa_cons pe_str pa_nil)) (pa_cons pe_dnewK (pa_cons pe_str (pa_cons pe_str (pa_cons pe_str (pa_cons pe_str (pa_cons pe_str (pa_cons pe_str pa_nil))))))))))))) (pe_op op_mod (pe_op op_fdiv (pv 8) pe_int) pe_int) (fun _ _ => rfl)))
    (pss_one (ps_if (PW.pt (pw_or (pt_not (pt_truth (pe_c (ok_L_is T) hr (by decide) (by rfl) (pa_cons (pv 9) pa_nil)) (by intro _; rfl))) (pw_or (pt_not (pt_truth (pe_c (ok_L_is T) hr (by decide) (by rfl) (pa_cons (pv 10) pa_nil)) (by intro _; rfl))) (pw_or1 (pt_not (pt_truth (pe_c (ok_L_same T) hr (by decide) (by rfl) (pa_cons (pe_c (ok_words_of T) hr (by decide) (by rfl) (pa_cons (pv 9) pa_nil)) (pa_cons (pe_c (ok_L_words T) hr (by decide) (by rfl) (pa_cons (pv 9) pa_nil)) pa_nil))) (by intro _; rfl))))))) (pss_one (ps_ret pe_bl))
    pss_nil))))))
    (pss_one (ps_ret pe_bl)))))
    (fun vs H Q E h => vr_law vs H Q E h)
end
def dd_L_mixed : He.DefD := ⟨("_law_mixed", none), "_law_mixed", "_law_mixed", defArgs s_L_mixed, defBody s_L_mixed, defScope s_L_mixed, [], []⟩
def dd_L_told : He.DefD := ⟨("_law_told", none), "_law_told", "_law_told", defArgs s_L_told, defBody s_L_told, defScope s_L_told, [], []⟩
def dd_L_signs : He.DefD := ⟨("_law_signs", none), "_law_signs", "_law_signs", defArgs s_L_signs, defBody s_L_signs, defScope s_L_signs, [], []⟩
def dd_L_name : He.DefD := ⟨("_law_name", none), "_law_name", "_law_name", defArgs s_L_name, defBody s_L_name, defScope s_L_name, [], []⟩
def dd_L_piece : He.DefD := ⟨("_law_piece", none), "_law_piece", "_law_piece", defArgs s_L_piece, defBody s_L_piece, defScope s_L_piece, [], []⟩
def dd_L_row : He.DefD := ⟨("_law_row", none), "_law_row", "_law_row", defArgs s_L_row, defBody s_L_row, defScope s_L_row, [], []⟩
def dd_L_run : He.DefD := ⟨("_law_run", none), "_law_run", "_law_run", defArgs s_L_run, defBody s_L_run, defScope s_L_run, [], []⟩
def dd_L_words : He.DefD := ⟨("_law_words", none), "_law_words", "_law_words", defArgs s_L_words, defBody s_L_words, defScope s_L_words, [], []⟩
def dd_p_end_of : He.DefD := ⟨("_end_of", none), "_end_of", "_end_of", defArgs s_p_end_of, defBody s_p_end_of, defScope s_p_end_of, [], []⟩
def dd_is_name : He.DefD := ⟨("is_name", none), "is_name", "is_name", defArgs s_is_name, defBody s_is_name, defScope s_is_name, [], []⟩
def dd_number_by : He.DefD := ⟨("number_by", none), "number_by", "number_by", defArgs s_number_by, defBody s_number_by, defScope s_number_by, [], []⟩
def dd_p_word_by : He.DefD := ⟨("_word_by", none), "_word_by", "_word_by", defArgs s_p_word_by, defBody s_p_word_by, defScope s_p_word_by, [], []⟩
def dd_words_of : He.DefD := ⟨("words_of", none), "words_of", "words_of", defArgs s_words_of, defBody s_words_of, defScope s_words_of, [], []⟩
def dd_L_same : He.DefD := ⟨("_law_same", none), "_law_same", "_law_same", defArgs s_L_same, defBody s_L_same, defScope s_L_same, [], []⟩
def dd_L_is : He.DefD := ⟨("_law_is", none), "_law_is", "_law_is", defArgs s_L_is, defBody s_L_is, defScope s_L_is, [], []⟩
def dd_law : He.DefD := ⟨("law", none), "law", "law", defArgs s_law, defBody s_law, defScope s_law, [], []⟩
def fnD : List He.DefD := [dd_L_mixed, dd_L_told, dd_L_signs, dd_L_name, dd_L_piece, dd_L_row, dd_L_run, dd_L_words, dd_p_end_of, dd_is_name, dd_number_by, dd_p_word_by, dd_words_of, dd_L_same, dd_L_is, dd_law]
def faD : List He.Fa := [.glo "_law_mixed", .glo "_law_told", .glo "_law_signs", .glo "_law_name", .glo "_law_piece", .glo "_law_row", .glo "_law_run", .glo "_law_words", .glo "_end_of", .glo "is_name", .glo "number_by", .glo "_word_by", .glo "words_of", .glo "_law_same", .glo "_law_is", .glo "law", .free "all", .free "bool", .free "enumerate", .free "int", .free "isinstance", .free "len", .free "list", .free "range", .free "str", .free "tuple", .free "zip", .str "FIGURES" "0123456789", .glo "MARKS", .int "MOST_FIGURES" 20, .int "MOST_NAME_SIGNS" 8, .str "NAME_SIGNS" "abcdefghijklmnopqrstuvwxyz0123456789", .str "SMALL_LETTERS" "abcdefghijklmnopqrstuvwxyz", .glo "TOLD_WORDS"]
def exD : PySem.W.Frag → Bool := fun K => He.tupB K "MARKS" [.str ":", .str ",", .str ".", .str "=", .str "==", .str "<", .str "&", .str "|", .str "^", .str "+", .str "-", .str "~", .str "(", .str ")", .str "[", .str "]"] && He.tupB K "TOLD_WORDS" [.str "part", .str "in", .str "out", .str "wire", .str "rest", .str "let", .str "use", .str "table", .str "memory", .str "if", .str "then", .str "else", .str "cut", .str "join", .str "fill"]
theorem tx_of {K : PySem.W.Frag} {h : Heap} {mg : Str → Option Value} (X : K.In h) (G : h.Ns mainGlobals mg) (c : He.SaysD faD fnD K) (ex : exD K = true) : Tx K mg where
  d_L_mixed := by
    obtain ⟨fd, F⟩ := c.def_ 0 (d := dd_L_mixed) rfl
    exact ⟨_, fd, F, He.glo_ok X G (c.fact 0 (f := .glo "_law_mixed") rfl)⟩
  d_L_told := by
    obtain ⟨fd, F⟩ := c.def_ 1 (d := dd_L_told) rfl
    exact ⟨_, fd, F, He.glo_ok X G (c.fact 1 (f := .glo "_law_told") rfl)⟩
  d_L_signs := by
    obtain ⟨fd, F⟩ := c.def_ 2 (d := dd_L_signs) rfl
    exact ⟨_, fd, F, He.glo_ok X G (c.fact 2 (f := .glo "_law_signs") rfl)⟩
  d_L_name := by
    obtain ⟨fd, F⟩ := c.def_ 3 (d := dd_L_name) rfl
    exact ⟨_, fd, F, He.glo_ok X G (c.fact 3 (f := .glo "_law_name") rfl)⟩
  d_L_piece := by
    obtain ⟨fd, F⟩ := c.def_ 4 (d := dd_L_piece) rfl
    exact ⟨_, fd, F, He.glo_ok X G (c.fact 4 (f := .glo "_law_piece") rfl)⟩
  d_L_row := by
    obtain ⟨fd, F⟩ := c.def_ 5 (d := dd_L_row) rfl
    exact ⟨_, fd, F, He.glo_ok X G (c.fact 5 (f := .glo "_law_row") rfl)⟩
  d_L_run := by
    obtain ⟨fd, F⟩ := c.def_ 6 (d := dd_L_run) rfl
    exact ⟨_, fd, F, He.glo_ok X G (c.fact 6 (f := .glo "_law_run") rfl)⟩
  d_L_words := by
    obtain ⟨fd, F⟩ := c.def_ 7 (d := dd_L_words) rfl
    exact ⟨_, fd, F, He.glo_ok X G (c.fact 7 (f := .glo "_law_words") rfl)⟩
  d_p_end_of := by
    obtain ⟨fd, F⟩ := c.def_ 8 (d := dd_p_end_of) rfl
    exact ⟨_, fd, F, He.glo_ok X G (c.fact 8 (f := .glo "_end_of") rfl)⟩
  d_is_name := by
    obtain ⟨fd, F⟩ := c.def_ 9 (d := dd_is_name) rfl
    exact ⟨_, fd, F, He.glo_ok X G (c.fact 9 (f := .glo "is_name") rfl)⟩
  d_number_by := by
    obtain ⟨fd, F⟩ := c.def_ 10 (d := dd_number_by) rfl
    exact ⟨_, fd, F, He.glo_ok X G (c.fact 10 (f := .glo "number_by") rfl)⟩
  d_p_word_by := by
    obtain ⟨fd, F⟩ := c.def_ 11 (d := dd_p_word_by) rfl
    exact ⟨_, fd, F, He.glo_ok X G (c.fact 11 (f := .glo "_word_by") rfl)⟩
  d_words_of := by
    obtain ⟨fd, F⟩ := c.def_ 12 (d := dd_words_of) rfl
    exact ⟨_, fd, F, He.glo_ok X G (c.fact 12 (f := .glo "words_of") rfl)⟩
  d_L_same := by
    obtain ⟨fd, F⟩ := c.def_ 13 (d := dd_L_same) rfl
    exact ⟨_, fd, F, He.glo_ok X G (c.fact 13 (f := .glo "_law_same") rfl)⟩
  d_L_is := by
    obtain ⟨fd, F⟩ := c.def_ 14 (d := dd_L_is) rfl
    exact ⟨_, fd, F, He.glo_ok X G (c.fact 14 (f := .glo "_law_is") rfl)⟩
  d_law := by
    obtain ⟨fd, F⟩ := c.def_ 15 (d := dd_law) rfl
    exact ⟨_, fd, F, He.glo_ok X G (c.fact 15 (f := .glo "law") rfl)⟩
  n_all := He.free_ok X G (c.fact 16 (f := .free "all") rfl)
  n_bool := He.free_ok X G (c.fact 17 (f := .free "bool") rfl)
  n_enumerate := He.free_ok X G (c.fact 18 (f := .free "enumerate") rfl)
  n_int := He.free_ok X G (c.fact 19 (f := .free "int") rfl)
  n_isinstance := He.free_ok X G (c.fact 20 (f := .free "isinstance") rfl)
  n_len := He.free_ok X G (c.fact 21 (f := .free "len") rfl)
  n_list := He.free_ok X G (c.fact 22 (f := .free "list") rfl)
  n_range := He.free_ok X G (c.fact 23 (f := .free "range") rfl)
  n_str := He.free_ok X G (c.fact 24 (f := .free "str") rfl)
  n_tuple := He.free_ok X G (c.fact 25 (f := .free "tuple") rfl)
  n_zip := He.free_ok X G (c.fact 26 (f := .free "zip") rfl)
  c_FIGURES := by
    obtain ⟨t, e⟩ := He.str_ok X G (c.fact 27 (f := .str "FIGURES" "0123456789") rfl)
    exact ⟨_, e, t, rfl⟩
  c_MARKS := ⟨_, He.glo_ok X G (c.fact 28 (f := .glo "MARKS") rfl), rfl⟩
  q_MARKS := fun H => He.tupB_ok (Bool.and_eq_true_iff.mp ex).1 H
  c_MOST_FIGURES := by
    obtain ⟨t, e⟩ := He.int_ok X G (c.fact 29 (f := .int "MOST_FIGURES" 20) rfl)
    exact ⟨_, e, t, rfl⟩
  c_MOST_NAME_SIGNS := by
    obtain ⟨t, e⟩ := He.int_ok X G (c.fact 30 (f := .int "MOST_NAME_SIGNS" 8) rfl)
    exact ⟨_, e, t, rfl⟩
  c_NAME_SIGNS := by
    obtain ⟨t, e⟩ := He.str_ok X G (c.fact 31 (f := .str "NAME_SIGNS" "abcdefghijklmnopqrstuvwxyz0123456789") rfl)
    exact ⟨_, e, t, rfl⟩
  c_SMALL_LETTERS := by
    obtain ⟨t, e⟩ := He.str_ok X G (c.fact 32 (f := .str "SMALL_LETTERS" "abcdefghijklmnopqrstuvwxyz") rfl)
    exact ⟨_, e, t, rfl⟩
  c_TOLD_WORDS := ⟨_, He.glo_ok X G (c.fact 33 (f := .glo "TOLD_WORDS") rfl), rfl⟩
  q_TOLD_WORDS := fun H => He.tupB_ok (Bool.and_eq_true_iff.mp ex).2 H
abbrev R : PySem.W.OpenRow := PySem.W.OpenLaw.row PySem.Challenge.rw_wireyard_k03_words_of_rows
def loose0 : List PySem.Str := ["SMALL_LETTERS", "FIGURES", "NAME_SIGNS", "MOST_NAME_SIGNS", "MOST_FIGURES", "MARKS", "TOLD_WORDS", "is_name", "words_of", "_end_of", "_word_by", "number_by", "_law_cell", "_law_mixed", "_law_signs", "_law_told", "_law_run", "_law_words", "_law_name", "_law_piece", "_law_row", "_law_same", "_law_is"]
def loose : List PySem.Str := loose0
abbrev hk : PySem.W.Hook := Z.hookZ faD fnD exD 4
def ob (s : PySem.W.SharedT) : He.AlD × Bool := Z.lookZ faD fnD exD 4 (HandSHeadRun.getT s)
theorem ob_eq (s : PySem.W.SharedT) : ob s = hk.obs s.abs := Z.lookZ_eq (HandSHeadRun.getT_eq s)
theorem run (w : World) : HandSHeadRun.RunEq R (PySem.W.view R.prog [25]) hk ob 4000 loose w := by
  intro os
  kernel_rfl
theorem fn_law {P : Program} {w : World} {K : PySem.W.Frag} {mg : Str → Option Value} {base : Heap} {f : Addr} {fd : FuncData} (F : FunD K "law" "law" (defArgs s_law) (defBody s_law) (defScope s_law) [] [] f fd) (T : Tx K mg) : FnOk P w K mg base CX0 5 f fd ["_law_script"] (sp_law K) :=
  F.ok sc_law len_law fun cdv A outer s H vs Q E hr h => ⟨(rd_law K), PSs.nox ((pss_cons (ps_for PassesOwn.never rfl (pi_tup (pe_tup (pa_cons pe_int (pa_cons pe_int pa_nil)))) (pg_name (i := 1) sc_law.nd rfl (.inl rfl)) (pss_cons (ps_set (i := 2) sc_law.nd rfl (.inl rfl) (pe_c (ok_L_row T) hr (by decide) (by rfl) (pa_cons (pv 0) (pa_cons (pv 1) pa_nil))))
    (pss_cons (ps_set (i := 3) sc_law.nd rfl (.inl rfl) (pe_c (ok_L_words T) hr (by decide) (by rfl) (pa_cons (pv 2) pa_nil)))
    (pss_one (ps_for PassesOwn.never rfl (pi_range1 (by rfl) T.n_range (pa_cons pe_int pa_nil)) (pg_name (i := 4) sc_law.nd rfl (.inl rfl)) (pss_cons (ps_set (i := 5) sc_law.nd rfl (.inl rfl) (pe_c (ok_words_of T) hr (by decide) (by rfl) (pa_cons (pv 2) pa_nil)))
    (pss_cons (ps_if (pt_not (pt_truth (pe_c (ok_L_same T) hr (by decide) (by rfl) (pa_cons (pv 5) (pa_cons (pv 3) pa_nil))) (by intro _; rfl))) (pss_one (ps_ret pe_bl))
    pss_nil)
    (pss_one (ps_if (pt_truth (pe_callB call_isi (by rfl) T.n_isinstance (by decide +kernel) (pa_cons (pv 5) (pa_cons (pe_bltn (by rfl) T.n_list (by decide +kernel) rfl) pa_nil))) (by intro _; rfl)) (pss_one (ps_expr (pe_bm PySem.F.plainAttrs_list PySem.F.slot_list_append PySem.F.type_list_append mt_append (pv 5) (pa_cons (pe_tup (pa_cons pe_str (pa_cons pe_str pa_nil))) pa_nil))))
    pss_nil)))))))))
    (pss_cons (ps_for PassesOwn.never rfl (pi_enum (by rfl) T.n_enumerate (pa_cons (pe_op op_cat (pe_slice sl_list (pv 0) po_none (po_some pe_int)) (pe_lst (pa_cons pe_int pa_nil))) pa_nil)) (pg_tup rfl (pgs_cons (pg_name (i := 6) sc_law.nd rfl (.inl rfl)) (pgs_cons (pg_name (i := 7) sc_law.nd rfl (.inl rfl)) pgs_nil))) (pss_cons (ps_set (i := 8) sc_law.nd rfl (.inl rfl) (pe_c (ok_L_mixed T) hr (by decide) (by rfl) (pa_cons (pv 7) (pa_cons (pe_op op_add pe_int (pe_op op_mod (pv 6) pe_int)) pa_nil))))
    (pss_cons (ps_set (i := 9) sc_law.nd rfl (.inl rfl) (pe_ix ix_list (pe_lst (pa_cons (pe_c (ok_L_name T) hr (by decide) (by rfl) (pa_cons (pe_op op_fdiv (pv 8) pe_int) pa_nil)) (pa_cons (pe_c (ok_L_piece T) hr (by decide) (by rfl) (pa_cons (pe_op op_fdiv (pv 8) pe_int) pa_nil)) pa_nil))) (pe_op op_mod (pv 8) pe_int) (fun _ _ => rfl)))
    (pss_cons (ps_set (i := 10) sc_law.nd rfl (.inl rfl) (pe_ix ix_list (pe_lst (pa_cons pe_non (pa_cons pe_int (pa_cons pe_bl (pa_cons (pe_lst (pa_cons pe_str pa_nil)) (pa_cons (pe_tup (pa_cons pe_str pa_nil)) (pa_cons pe_dnewK (pa_cons pe_str (pa_cons pe_str (pa_cons pe_str (pa_cons pe_str (pa_cons pe_str (pa_cons pe_str pa_nil))))))))))))) (pe_op op_mod (pe_op op_fdiv (pv 8) pe_int) pe_int) (fun _ _ => rfl)))
    (pss_one (ps_if (PW.pt (pw_or (pt_not (pt_truth (pe_c (ok_L_is T) hr (by decide) (by rfl) (pa_cons (pv 9) pa_nil)) (by intro _; rfl))) (pw_or (pt_not (pt_truth (pe_c (ok_L_is T) hr (by decide) (by rfl) (pa_cons (pv 10) pa_nil)) (by intro _; rfl))) (pw_or1 (pt_not (pt_truth (pe_c (ok_L_same T) hr (by decide) (by rfl) (pa_cons (pe_c (ok_words_of T) hr (by decide) (by rfl) (pa_cons (pv 9) pa_nil)) (pa_cons (pe_c (ok_L_words T) hr (by decide) (by rfl) (pa_cons (pv 9) pa_nil)) pa_nil))) (by intro _; rfl))))))) (pss_one (ps_ret pe_bl))
    pss_nil))))))
    (pss_one (ps_ret pe_bl))))), vr_law vs H Q E h⟩
theorem facts {P : Program} {w : World} {K : PySem.W.Frag} {h : Heap} {mg : Str → Option Value} {f : Addr} (X : K.In h) (G : h.Ns mainGlobals mg) (hfa : mg ("law" : Str) = some (.ref f)) (c : He.SaysD faD fnD K) (x : exD K = true) :
    ∃ fd : FuncData, (∀ (s : Shared) (v : Value), BindsTo s fd ⟨[v], []⟩ [("_law_script", v)]) ∧ ∀ base : Heap, K.In base → base.Ns mainGlobals mg → FnOk P w K mg base CX0 5 f fd ["_law_script"] (sp_law K) := by
  have T : Tx K mg := tx_of X G c x
  obtain ⟨fd, F⟩ := c.def_ 15 (d := dd_law) rfl
  have e := hfa.symm.trans (He.glo_ok X G (c.fact 15 (f := .glo "law") rfl))
  cases e
  have b := FunD.bindsA (ps := ["_law_script"]) F fun _ _ _ _ _ _ us hl => match us, hl with | [_], _ => rfl
  refine ⟨fd, fun s v => b s [v] rfl, fun base _ _ => ?_⟩
  exact fn_law F T
end K03
open PySem PySem.W PySem.Calls PyProof.Rows
set_option maxHeartbeats 0 in
theorem PySem.Challenge.cw_wireyard_k03_words_of_rows_holds : PySem.Challenge.rw_wireyard_k03_words_of_rows.Holds := by
  w_on; o_law
  refine HandSHeadRun.head_any (r := K03.R) (q := view K03.R.prog [25]) (H := K03.hk) (ob := K03.ob) (M := 4000) (loose := K03.loose) (d := HandSHeadRun.topDef K03.R.prog 25) (kwd := []) K03.ob_eq
    (by kernel_rfl) (fun s => by kernel_rfl) K03.run (by kernel_rfl) (by kernel_rfl) (by kernel_rfl) (by rfl) (by first | assumption | decide +kernel) (by decide +kernel) ⟨rfl, rfl, rfl, rfl, rfl, by decide +kernel⟩ ?hw ?hc
  case hw => w_witness2
  case hc =>
    refine L2.walk_ofE (l := PySem.Challenge.rw_wireyard_k03_words_of_rows) (n := 63) (k := 5) (x := "_law_script") (CX := L2.CX0) rfl (by decide) (by kernel_rfl) ⟨rfl, by decide, by decide⟩ ?F (fun _ _ _ _ z => z)
    intro w mg fa h Y G hmg0
    obtain ⟨K, KX, c, x⟩ := Y
    have hmg : mg ("law" : PySem.Str) = some (.ref fa) := by
      have e : (HandSHeadRun.topDef K03.R.prog 25).name = ("law" : PySem.Str) := by kernel_rfl
      rw [← e]
      exact hmg0
    obtain ⟨fd, hb, hF⟩ := K03.facts (P := (PySem.Challenge.rw_wireyard_k03_words_of_rows).prog) (w := w) KX G hmg c x
    exact ⟨K, fd, K03.sp_law K, KX, hb, fun H a ns hl _ hS => ⟨a, ns, rfl, hS, hl, fun _ _ => rfl⟩, hF⟩
