import PyProof.Rows.All
import Wide.All
import OpenK.AllK
import Wide.FinOn
import Lean
import KE.KStateDown
import HandS.ForMost
import HandS.Walk
import HandS.Evl
import HandS.Flow
import HandS.Style
import HandS.WideBits
import HandS.Defaults
import HandS.IsInst
import HandS.More
import HandS.Replace
import HandS.TupLe
import HandS.RevRange
import HandS.Conv
import HandS.TupAny
import KE.IntTextLaws
import HandS.Head0
import HandS.Head1
import HandS.Head2
import HandS.HeadEnd
import HandS.HeadHook1
import HandS.HeadHook2
import PyProof.DictUpdate
import HandS.HeadHook3
import HandS.Zip
import PySem.Challenge.RW_wireyard_k22_rows_of_nets
set_option Elab.async false
set_option linter.all false
set_option maxRecDepth 100000
set_option maxHeartbeats 4000000
/-! Z: my own short steps over the hand layer: one lemma a reading, in the order in which the code runs; heaps are letters, joined by Ex. -/
namespace Z
open PySem PySem.Spec PyProof.Rows L2
open Evl (Ex ex_l ex_t ex_rd sq_of st_of fresh_back)

/-! ### short names of readings -/
abbrev rAddI : R2 := rI0 fun i j => .int (i + j)
abbrev rSubI : R2 := rI0 fun i j => .int (i - j)
abbrev rMulI : R2 := rI CMul fun i j => .int (i * j)
abbrev rMulX : R2 := rI CMulX fun i j => .int (i * j)
abbrev rDivI : R2 := rI CDiv fun i j => .int (i / j)
abbrev rDivW : R2 := rI CDivW fun i j => .int (i / j)
abbrev rIndexS : V → List V → Hp → VK → Prop := fun x xs H Q => ∃ a b i rest, x = .str a ∧ xs = [.str b] ∧ Builtin.Str.occurrences a b 0 a.length 1 = i :: rest ∧ Q (.int (i : Nat)) H
abbrev rModI : R2 := rI (fun _ j => 0 < j) fun i j => .int (i % j)
abbrev rPowI : R2 := rI CPow fun i j => .int (i ^ j.toNat)
abbrev rShlI : R2 := rI CShl fun i j => .int (i * 2 ^ j.toNat)
abbrev rShrI : R2 := rI (fun _ j => 0 ≤ j) fun i j => .int (i / 2 ^ j.toNat)
abbrev rAndI : R2 := rI0 fun i j => .int (Builtin.bitAnd i j)
abbrev rOrI : R2 := rI0 fun i j => .int (Builtin.bitOr i j)
abbrev rXorI : R2 := rI0 fun i j => .int (Builtin.bitXor i j)
abbrev rLtI : R2 := rI0 fun i j => .bl (decide (i < j))
abbrev rLeI : R2 := rI0 fun i j => .bl (decide (i ≤ j))
abbrev rGtI : R2 := rI0 fun i j => .bl (decide (j < i))
abbrev rGeI : R2 := rI0 fun i j => .bl (decide (j ≤ i))
abbrev rNegI : V → Hp → VK → Prop := rU fun i => .int (-i)
def rAddStr : R2 := fun x y H Q => ∃ i j, x = .str i ∧ y = .str j ∧ i.length + j.length ≤ sizeLine ∧ Q (.str (i ++ j)) H
def rInSgn : R2 := fun x y H Q => ∃ (c : Nat) (z : Str), x = .str ⟨#[c]⟩ ∧ y = .str z ∧ Q (.bl (decide (c ∈ z.cps.toList))) H
def rNinSgn : R2 := fun x y H Q => ∃ (c : Nat) (z : Str), x = .str ⟨#[c]⟩ ∧ y = .str z ∧ Q (.bl (!decide (c ∈ z.cps.toList))) H
abbrev cLenSeq (K : PySem.W.Frag) : List V → Hp → VK → Prop := fun xs H Q => ∃ p ys, xs = [.ref p] ∧ (SqL K H p ys ∨ SqT K H p ys) ∧ Q (.int ys.length) H
abbrev cLenStr : List V → Hp → VK → Prop := fun xs H Q => ∃ z, xs = [.str z] ∧ z.length ≤ sizeLine ∧ Q (.int z.length) H
abbrev cInt1 : List V → Hp → VK → Prop := fun xs H Q => (∃ i, xs = [.int i] ∧ Q (.int i) H) ∨ ∃ k, xs = [.bl k] ∧ Q (.int (if k then 1 else 0)) H
abbrev cMax2 : List V → Hp → VK → Prop := fun xs H Q => ∃ i j, xs = [.int i, .int j] ∧ Q (.int (if j > i then j else i)) H
abbrev cMin2 : List V → Hp → VK → Prop := fun xs H Q => ∃ i j, xs = [.int i, .int j] ∧ Q (.int (if j < i then j else i)) H
abbrev rIsBl : R2 := fun x y H Q => ∃ a b, x = .bl a ∧ y = .bl b ∧ Q (.bl (decide (a = b))) H
abbrev rNotBl : R2 := fun x y H Q => ∃ a b, x = .bl a ∧ y = .bl b ∧ Q (.bl (!decide (a = b))) H
def rMulStr : R2 := fun x y H Q => ∃ (s : Str) (n : Int), x = .str s ∧ y = .int n ∧ MulOk s n ∧ Q (.str (Txt.mul s n)) H
theorem op_mul_str {X : Cx} : OpR X (binaryOp .Mult) rMulStr := fun pins s σ H x y v u Q I rx ry h => by
  obtain ⟨z, n, rfl, rfl, hz, q⟩ := h
  obtain ⟨t1, rfl⟩ := rx
  obtain ⟨t2, rfl⟩ := ry
  exact SB.mul hz fun t' k => ⟨.str (Txt.mul z n), H, I.tok _, ⟨_, rfl⟩, q⟩
abbrev rJoin (K : PySem.W.Frag) : V → List V → Hp → VK → Prop := fun x xs H Q => ∃ a p, ∃ ys : List Str, x = .str a ∧ xs = [.ref p] ∧ (SqL K H p (ys.map V.str) ∨ SqT K H p (ys.map V.str)) ∧ (ys.map (·.length)).sum + ys.length * a.length ≤ 16777216 ∧ Q (.str (Txt.join a ys)) H
abbrev cStrInt : List V → Hp → VK → Prop := fun xs H Q => ∃ i : Int, xs = [.int i] ∧ i.natAbs.log2 < 1920 ∧ Q (.str (toString i)) H
abbrev cIntStr : List V → Hp → VK → Prop := fun xs H Q => ∃ a n, xs = [.str a] ∧ PySem.intText? a = some n ∧ a.length ≤ 640 ∧ Q (.int n) H
abbrev rPartition : V → List V → Hp → VK → Prop := fun x xs H Q => ∃ a b, x = .str a ∧ xs = [.str b] ∧ (b.length == 0) = false ∧ a.length ≤ sizeLine ∧ ∀ p, H p = none → Q (.ref p) (upd H p (.tup [.str (Txt.partition a b).1, .str (Txt.partition a b).2.1, .str (Txt.partition a b).2.2]))
abbrev rSplit : V → List V → Hp → VK → Prop := fun x xs H Q => ∃ a b, x = .str a ∧ xs = [.str b] ∧ (b.length == 0) = false ∧ a.length + 2 ≤ sizeLine ∧ ∀ p, H p = none → Q (.ref p) (upd H p (.lst ((Txt.split a b).map V.str)))
abbrev rUpper : V → List V → Hp → VK → Prop := fun x xs H Q => ∃ a, x = .str a ∧ xs = [] ∧ a.length ≤ 5592405 ∧ Q (.str (Txt.upper a)) H
abbrev tTru (K : PySem.W.Frag) (ta : TE) : TT := fun σ H Q => ta σ H fun x H' => ∃ k, TruV K x H' k ∧ Q k H'

/-! ### a def of the module and its promise -/
def DX (K : PySem.W.Frag) (mg : Str → Option Value) (x : Str) (st : Stmt) : Prop := ∃ f fd, FunD K x x (defArgs st) (defBody st) (defScope st) [] [] f fd ∧ mg x = some (.ref f)
structure Cal (P : Program) (w : World) (K : PySem.W.Frag) (mg : Str → Option Value) (base : Heap) (k : Nat) (x : Str) (sp : Sp) : Prop where
  ex : ∃ (f : Addr) (fd : FuncData) (ps : List Str), FnOk P w K mg base CX0 k f fd ps sp ∧ mg x = some (.ref f) ∧ PySem.W.keepIn K (.ref f) = true ∧ Binds K fd ps []
section
variable {X : Cx} {k j : Nat} {x : Str} {sp : Sp} {p pos : Pos} {e : Expr} {es : List Expr} {t : TA}
theorem pe_c (c : Cal X.prog X.w X.K X.mg X.base k x sp) (hr : Room j X.A) (hk : k ≤ j) (hg : Gl X x) (ha : PA X (e :: es) t)
    (hdb : (x == ("__debug__" : Str)) = false := by decide) (he : starEach (e :: es) X.env = (false, eval e X.env) :: starEach es X.env := by rfl) (hpl : (backTo pos (starEach es X.env)).any (·.1) = false := by rfl) :
    PE X (.Call (.Name x p) (e :: es) [] pos) (tCall sp [] E0 t) := by
  obtain ⟨f, fd, ps, F, hm, kp, b⟩ := c.ex
  exact pe_call F (hr.mono hk) hg hm kp b .nil pass0 ha hdb he hpl
theorem pe_c0 (c : Cal X.prog X.w X.K X.mg X.base k x sp) (hr : Room j X.A) (hk : k ≤ j) (hg : Gl X x) (hdb : (x == ("__debug__" : Str)) = false := by decide) :
    PE X (.Call (.Name x p) [] [] pos) (tCall sp [] E0 tNil) := by
  obtain ⟨f, fd, ps, F, hm, kp, b⟩ := c.ex
  exact pe_call0 F (hr.mono hk) hg hm kp b .nil pass0 hdb
/-- a name of the module, by its value -/
theorem pe_gc {v : V} (hg : Gl X x) (h : ∃ u, X.mg x = some u ∧ RelV v u) (hd : (x == ("__debug__" : Str)) = false := by decide) : PE X (.Name x pos) (tC v) := by
  obtain ⟨u, hm, r⟩ := h
  exact pe_glob hg hm r hd
end
section
variable {P : Program} {w : World} {K : PySem.W.Frag} {mg : Str → Option Value} {base : Heap}
theorem cal_mk {x : Str} {st : Stmt} {N ps : List Str} {k : Nat} {sp : Sp} {t : TS} (D : DX K mg x st) (S : FnScope N ps (defScope st))
    (hb : ∀ (kV doc pm : Value) (an : Option Addr) (cdv ct : Value) (us : List Value), us.length = ps.length → bindArgs (PySem.W.fnOf x x (defArgs st) (defBody st) (defScope st) .none kV doc pm an cdv ct) ⟨us, []⟩ = pure (ps.zip us))
    (len : ∀ vs H Q E, sp vs H Q E → vs.length = ps.length)
    (hd : ∀ (f : Addr) (cdv : Value) (A : Around) (outer : List Env) (s : Shared) (H : Hp) (E : XK), Room k (A.deeper (envOfC x (defScope st) s.heap.objs.size f cdv)) → PSs (cxOf CX0 P w K mg base N x (defScope st) f cdv A outer s H E).nox (defBody st) t)
    (hv : ∀ vs H Q E, sp vs H Q E → t { nx := fun _ H' => Q .non H', rt := Q } (start N vs) H) : Cal P w K mg base (k + 1) x sp := by
  obtain ⟨f, fd, F, hm⟩ := D
  exact ⟨f, fd, ps, F.ok S len fun cdv A outer s H vs Q E hr h => ⟨t, PSs.nox (hd f cdv A outer s H E hr), hv vs H Q E h⟩, hm, F.kp, F.bindsN hb⟩
end
theorem hu64 {A : Around} {k : Nat} (hr : Room k A) : A.units + 64 < cLine := by have := hr.un; omega

/-! ### heaps: the facts of an elder one -/
section
variable {K : PySem.W.Frag} {σ : L2.St} {H H' : Hp} {Q : VK} {QB : Bool → Hp → Prop} {QA : List V → Hp → Prop} {QO : Option Int → Hp → Prop} {D : Ends} {v x y : V} {i j : Int} {a p : Addr} {xs : List V} {s z : Str} {b : Bool}
variable {ta tb te tc : TE} {t u : TT} {tl th : TO} {tr : TA} {ts tu : TS} {r : R2} {g : TG}

theorem szl {n : Nat} (h : n ≤ 1000) : n ≤ sizeLine := Nat.le_trans h (by decide)
theorem szlt {n : Nat} (h : n ≤ 1000) : n < sizeLine := Nat.lt_of_le_of_lt h (by decide)
/-! ### expressions -/
theorem z_var {n : Nat} (h : σ[n]? = some (some v)) (q : Q v H) : tVar n σ H Q := ⟨v, h, q⟩
theorem z_c (q : Q v H) : tC v σ H Q := q
theorem z_op (q : ta σ H fun x H1 => tb σ H1 fun y H2 => r x y H2 Q) : tOp r ta tb σ H Q := q
theorem z_un {r : V → Hp → VK → Prop} (q : ta σ H fun x H1 => r x H1 Q) : tUn r ta σ H Q := q
theorem z_i0 {f : Int → Int → V} (q : Q (f i j) H) : rI0 f (.int i) (.int j) H Q := ⟨i, j, rfl, rfl, q⟩
theorem z_i {C : Int → Int → Prop} {f : Int → Int → V} (h : C i j) (q : Q (f i j) H) : rI C f (.int i) (.int j) H Q := ⟨i, j, rfl, rfl, h, q⟩
theorem z_u {f : Int → V} (q : Q (f i) H) : rU f (.int i) H Q := ⟨i, rfl, q⟩
theorem z_eq (h : scal x y = true) (q : Q (.bl (decide (x = y))) H) : rEq x y H Q := ⟨h, q⟩
theorem z_ne (h : scal x y = true) (q : Q (.bl (!decide (x = y))) H) : rNe x y H Q := ⟨h, q⟩
theorem z_addS (h : s.length + z.length ≤ sizeLine) (q : Q (.str (s ++ z)) H) : rAddStr (.str s) (.str z) H Q := ⟨s, z, rfl, rfl, h, q⟩
theorem z_inS {c : Nat} (q : Q (.bl (decide (c ∈ z.cps.toList))) H) : rInSgn (.str ⟨#[c]⟩) (.str z) H Q := ⟨c, z, rfl, rfl, q⟩
theorem z_ninS {c : Nat} (q : Q (.bl (!decide (c ∈ z.cps.toList))) H) : rNinSgn (.str ⟨#[c]⟩) (.str z) H Q := ⟨c, z, rfl, rfl, q⟩
theorem z_if (q : t σ H fun c H1 => if c = true then ta σ H1 Q else tb σ H1 Q) : tIf t ta tb σ H Q := q
theorem z_andT (q : ta σ H fun x H1 => ∃ k, TruV K x H1 k ∧ if k = true then tb σ H1 Q else Q x H1) : tAndT K ta tb σ H Q := q
theorem z_orT (q : ta σ H fun x H1 => ∃ k, TruV K x H1 k ∧ if k = true then Q x H1 else tb σ H1 Q) : tOrT K ta tb σ H Q := q
theorem z_notT (q : ta σ H fun x H1 => ∃ k, TruV K x H1 k ∧ Q (.bl (!k)) H1) : tNotT K ta σ H Q := q
theorem z_isN (q : ta σ H fun x H1 => Q (.bl (decide (x = .non))) H1) : tIsN ta σ H Q := q
theorem z_notN (q : ta σ H fun x H1 => Q (.bl (!decide (x = .non))) H1) : tNotN ta σ H Q := q
theorem z_nil (q : QA [] H) : tNil σ H QA := q
theorem z_cons (q : te σ H fun x H1 => tr σ H1 fun xs H2 => QA (x :: xs) H2) : tCons te tr σ H QA := q
theorem z_call {sp : Sp} {E : XK} (q : tr σ H fun vs H1 => sp (vs ++ []) H1 Q E) : tCall sp [] E tr σ H Q := q
theorem z_cb {r : List V → Hp → VK → Prop} (q : tr σ H fun vs H1 => r vs H1 Q) : tCB r tr σ H Q := q
theorem z_lst (q : tr σ H fun xs H1 => xs.length ≤ sizeLine ∧ ∀ p, H1 p = none → Q (.ref p) (upd H1 p (.lst xs))) : tLst tr σ H Q := q
theorem z_tup (q : tr σ H fun xs H1 => xs.length ≤ sizeLine ∧ ∀ p, H1 p = none → Q (.ref p) (upd H1 p (.tup xs))) : tTup tr σ H Q := q
theorem z_ixL {l : Addr} (h : SqL K H l xs) (e : atI xs i = some v) (q : Q v H) : rIxL K (.ref l) (.int i) H Q := ⟨l, xs, i, v, rfl, rfl, h, e, q⟩
theorem z_ixT {l : Addr} (h : SqT K H l xs) (e : atI xs i = some v) (q : Q v H) : rIxT K (.ref l) (.int i) H Q := ⟨l, xs, i, v, rfl, rfl, h, e, q⟩
theorem z_ixS {c : Nat} (h : z.length ≤ sizeLine) (e : atI z.cps.toList i = some c) (q : Q (.str ⟨#[c]⟩) H) : rIxS (.str z) (.int i) H Q := ⟨z, i, c, rfl, rfl, h, e, q⟩
theorem z_cat {l m : Addr} {ys : List V} (h : H l = some (.lst xs)) (h2 : H m = some (.lst ys)) (hz : xs.length + ys.length ≤ sizeLine) (q : ∀ p, H p = none → Q (.ref p) (upd H p (.lst (xs ++ ys)))) : rCat (.ref l) (.ref m) H Q := ⟨l, m, xs, ys, rfl, rfl, h, h2, hz, q⟩
theorem z_rep {l : Addr} {k : Int} (h : H l = some (.lst xs)) (h1 : -(2 ^ 63) ≤ k) (h2 : k < 2 ^ 63) (hz : xs.length * k.toNat ≤ sizeLine) (q : ∀ p, H p = none → Q (.ref p) (upd H p (.lst (List.replicate k.toNat xs).flatten))) : rRep (.ref l) (.int k) H Q := ⟨l, k, xs, rfl, rfl, h, h1, h2, hz, q⟩
theorem z_inL {l : Addr} {neg : Bool} (h : SqL K H l xs) (hx : flatV x = true) (hs : xs.all flatV = true) (q : Q (.bl (if neg then !inV x xs else inV x xs)) H) : rIn K neg x (.ref l) H Q := ⟨l, xs, rfl, .inl h, hx, hs, q⟩
theorem z_inT {l : Addr} {neg : Bool} (h : SqT K H l xs) (hx : flatV x = true) (hs : xs.all flatV = true) (q : Q (.bl (if neg then !inV x xs else inV x xs)) H) : rIn K neg x (.ref l) H Q := ⟨l, xs, rfl, .inr h, hx, hs, q⟩
theorem z_lenL {l : Addr} (h : SqL K H l xs) (q : Q (.int xs.length) H) : cLenSeq K [.ref l] H Q := ⟨l, xs, rfl, .inl h, q⟩
theorem z_lenT {l : Addr} (h : SqT K H l xs) (q : Q (.int xs.length) H) : cLenSeq K [.ref l] H Q := ⟨l, xs, rfl, .inr h, q⟩
theorem z_lenS (h : z.length ≤ sizeLine) (q : Q (.int z.length) H) : cLenStr [.str z] H Q := ⟨z, rfl, h, q⟩
theorem z_int1 (q : Q (.int i) H) : cInt1 [.int i] H Q := .inl ⟨i, rfl, q⟩
theorem z_intb (q : Q (.int (if b then 1 else 0)) H) : cInt1 [.bl b] H Q := .inr ⟨b, rfl, q⟩
theorem z_max2 (q : Q (.int (if j > i then j else i)) H) : cMax2 [.int i, .int j] H Q := ⟨i, j, rfl, q⟩
theorem z_min2 (q : Q (.int (if j < i then j else i)) H) : cMin2 [.int i, .int j] H Q := ⟨i, j, rfl, q⟩
theorem z_revL (q : te σ H fun x H1 => ∃ a xs, x = .ref a ∧ SqL K H1 a xs ∧ ∀ p, H1 p = none → Q (.ref p) (upd H1 p (.lst xs.reverse))) : tRevL K te σ H Q := q
theorem z_revL1 (h : SqL K H a xs) (q : ∀ p, H p = none → Q (.ref p) (upd H p (.lst xs.reverse))) : ∃ a' xs', V.ref a = .ref a' ∧ SqL K H a' xs' ∧ ∀ p, H p = none → Q (.ref p) (upd H p (.lst xs'.reverse)) := ⟨a, xs, rfl, h, q⟩
theorem z_isi {T U : String} (h : TyX K H x (.type T)) (e : PySem.W.kitOne K (.type T) (.type U) = some b) (q : Q (.bl b) H) : rIsi K [x, .ty U] H Q := ⟨x, _, _, _, b, rfl, .ty U, h, e, q⟩
theorem z_dnew (q : ∀ p, H p = none → Q (.ref p) (upd H p (.dK []))) : tDNewK σ H Q := q
theorem z_isbl {c d : Bool} (q : Q (.bl (decide (c = d))) H) : rIsBl (.bl c) (.bl d) H Q := ⟨c, d, rfl, rfl, q⟩
theorem z_notbl {c d : Bool} (q : Q (.bl (!decide (c = d))) H) : rNotBl (.bl c) (.bl d) H Q := ⟨c, d, rfl, rfl, q⟩
theorem z_mulS {n : Int} (h : MulOk s n) (q : Q (.str (Txt.mul s n)) H) : rMulStr (.str s) (.int n) H Q := ⟨s, n, rfl, rfl, h, q⟩
theorem z_strI (h : i.natAbs.log2 < 1920) (q : Q (.str (toString i)) H) : cStrInt [.int i] H Q := ⟨i, rfl, h, q⟩
theorem z_nopart (q : QO none H) : tNoPart σ H QO := q
theorem z_part (q : te σ H fun x H1 => ∃ i, x = .int i ∧ QO (some i) H1) : tPart te σ H QO := q
theorem z_part1 {R : Int → Prop} (q : R i) : ∃ j, V.int i = .int j ∧ R j := ⟨i, rfl, q⟩
theorem z_sl {r : V → Option Int → Option Int → Hp → VK → Prop} (q : te σ H fun x H1 => tl σ H1 fun l H2 => th σ H2 fun u H3 => r x l u H3 Q) : tSl r te tl th σ H Q := q
theorem z_slL {lo hi : Option Int} (h : SqL K H a xs) (q : ∀ p, H p = none → Q (.ref p) (upd H p (.lst (cutV xs lo hi)))) : rSlL K (.ref a) lo hi H Q := ⟨a, xs, rfl, h, q⟩
theorem z_slS {lo hi : Option Int} (h : z.length ≤ sizeLine) (q : Q (.str (cutS z lo hi)) H) : rSlS (.str z) lo hi H Q := ⟨z, rfl, h, q⟩
theorem z_chain {r r' : R2} (q : ta σ H fun x H1 => tb σ H1 fun y H2 => r x y H2 fun z H3 => ∃ k, z = .bl k ∧ if k = true then tc σ H3 fun w' H4 => r' y w' H4 Q else Q (.bl false) H3) : tChain r r' ta tb tc σ H Q := q

/-! ### truth -/
theorem z_test (q : te σ H fun x H' => ∃ k, x = .bl k ∧ QB k H') : tTest te σ H QB := q
theorem z_tB (q : te σ H fun x H' => ∃ k, x = .bl k ∧ QB k H') : tB te σ H QB := q
theorem z_bl {R : Bool → Prop} (q : R b) : ∃ k, V.bl b = .bl k ∧ R k := ⟨b, rfl, q⟩
theorem z_tru (q : ta σ H fun x H' => ∃ k, TruV K x H' k ∧ QB k H') : tTru K ta σ H QB := q
theorem z_trub {R : Bool → Prop} (q : R b) : ∃ k, TruV K (.bl b) H k ∧ R k := ⟨b, rfl, q⟩
theorem z_trui {R : Bool → Prop} (q : R (i != 0)) : ∃ k, TruV K (.int i) H k ∧ R k := ⟨_, rfl, q⟩
theorem z_trun {R : Bool → Prop} (q : R false) : ∃ k, TruV K .non H k ∧ R k := ⟨_, rfl, q⟩
theorem z_trul {R : Bool → Prop} (h : SqL K H a xs) (q : R (!xs.isEmpty)) : ∃ k, TruV K (.ref a) H k ∧ R k := ⟨_, .inl ⟨xs, h, rfl⟩, q⟩
theorem z_and (q : t σ H fun c H1 => if c = true then u σ H1 QB else QB false H1) : tAnd t u σ H QB := q
theorem z_or (q : t σ H fun c H1 => if c = true then QB true H1 else u σ H1 QB) : tOr t u σ H QB := q
theorem z_not (q : t σ H fun c H1 => QB (!c) H1) : tNot t σ H QB := q
theorem z_yes (q : QB true H) : tYes σ H QB := q
theorem ite_t {A B : Prop} (q : A) : if true = true then A else B := by rw [if_pos rfl]; exact q
theorem ite_f {A B : Prop} (q : B) : if false = true then A else B := by rw [if_neg Bool.false_ne_true]; exact q
theorem ite_b {A B : Prop} (h1 : b = true → A) (h2 : b = false → B) : if b = true then A else B := by
  cases b with
  | true => exact ite_t (h1 rfl)
  | false => exact ite_f (h2 rfl)

/-! ### statements -/
theorem z_seq (q : ts { D with nx := tu D } σ H) : tSeq ts tu D σ H := q
theorem z_cut (Mid : L2.St → Hp → Prop) (h : ts { D with nx := Mid } σ H) (q : ∀ σ' H', Mid σ' H' → tu D σ' H') : Evl.tCut ts tu D σ H := ⟨Mid, h, q⟩
theorem z_next (q : D.nx σ H) : tNext D σ H := q
theorem z_ret (q : te σ H D.rt) : tRet te D σ H := q
theorem z_retN (q : D.rt .non H) : tRetN D σ H := q
theorem z_drop (q : te σ H fun _ H1 => D.nx σ H1) : tDrop te D σ H := q
theorem z_ifs (q : t σ H fun b H1 => if b = true then ts D σ H1 else tu D σ H1) : tIfS t ts tu D σ H := q
theorem z_asg (q : te σ H fun x H1 => g x σ H1 D.nx) : tAsg te g D σ H := q
theorem z_brk (q : D.bk σ H) : tBreak D σ H := q
theorem z_cont (q : D.ct σ H) : tCont D σ H := q
theorem z_gname {n : Nat} {QS : L2.St → Hp → Prop} (q : QS (σ.set n (some v)) H) : gName n v σ H QS := q
theorem z_aug {n : Nat} {f : Int → Int → Int} (h : σ[n]? = some (some (.int i))) (q : te σ H fun y H1 => ipI f (.int i) y H1 fun z H2 => D.nx (σ.set n (some z)) H2) : tAug n te (ipI f) D σ H := ⟨.int i, h, q⟩
theorem z_ipi {f : Int → Int → Int} (q : Q (.int (f i j)) H) : ipI f (.int i) (.int j) H Q := ⟨i, j, rfl, rfl, q⟩
theorem z_gtup2 {m n : Nat} {QS : L2.St → Hp → Prop} (h : SqT K H a [x, y]) (q : QS ((σ.set m (some x)).set n (some y)) H) : gTup K 2 (gCons (gName m) (gCons (gName n) gNil)) (.ref a) σ H QS := ⟨a, _, rfl, h, rfl, x, [y], rfl, y, [], rfl, rfl, q⟩
theorem z_bm {r : V → List V → Hp → VK → Prop} {T : String} (q : te σ H fun x H1 => tyV K T x H1 ∧ tr σ H1 fun xs H2 => r x xs H2 Q) : tBM K T r te tr σ H Q := q
theorem z_bm0 {r : V → List V → Hp → VK → Prop} {T : String} (q : te σ H fun x H1 => tyV K T x H1 ∧ r x [] H1 Q) : tBM0 K T r te σ H Q := q
theorem z_tyl {R : Prop} (h : SqL K H a xs) (q : R) : tyV K "list" (.ref a) H ∧ R := ⟨.inl ⟨rfl, xs, h⟩, q⟩
theorem z_tys {R : Prop} (q : R) : tyV K "str" (.str z) H ∧ R := ⟨rfl, q⟩
theorem z_rapp (h : H a = some (.lst xs)) (hz : xs.length < sizeLine) (q : Q .non (upd H a (.lst (xs ++ [v])))) : rAppend (.ref a) [v] H Q := ⟨a, xs, v, rfl, rfl, h, hz, q⟩
theorem z_rext {c : Addr} {ys : List V} (h : H a = some (.lst xs)) (h2 : H c = some (.lst ys)) (hz : xs.length + ys.length ≤ sizeLine) (q : Q .non (upd H a (.lst (xs ++ ys)))) : rExtend (.ref a) [.ref c] H Q := ⟨a, c, xs, ys, rfl, rfl, h, h2, hz, q⟩
theorem z_rpop (h : H a = some (.lst xs)) (e : xs[xs.length - 1]? = some v) (q : Q v (upd H a (.lst xs.dropLast))) : rPop (.ref a) [] H Q := ⟨a, xs, v, rfl, rfl, h, e, q⟩
end
/-! ### loops -/
def FW (J : It) (g : TG) (tb : TS) (D : Ends) (σ : L2.St) (H1 : Hp) : Prop := ∃ W : Nat → Nat → L2.St → Hp → Prop, (∃ m, W 0 m σ H1) ∧ ∀ i m σ H, W i m σ H →
  (J.stop i H ∧ D.nx σ H) ∨ (J.go i H ∧ ∃ N : L2.St → Hp → Prop, (∀ σ' H', N σ' H' → ∃ m', m' < m ∧ W (i + 1) m' σ' H') ∧ ∀ x H', J.yld i H x H' → g x σ H' fun σ2 H2 => tb { D with nx := N, ct := N, bk := D.nx } σ2 H2)
def FL (K : PySem.W.Frag) (g : TG) (tb : TS) (D : Ends) (σ : L2.St) (x : V) (H1 : Hp) : Prop := ∃ a, x = .ref a ∧ (∃ xs, SqL K H1 a xs) ∧ FW (Itl K a) g tb D σ H1
def FT (K : PySem.W.Frag) (g : TG) (tb : TS) (D : Ends) (σ : L2.St) (x : V) (H1 : Hp) : Prop := ∃ a, x = .ref a ∧ (∃ xs, SqT K H1 a xs) ∧ FW (Itt K a) g tb D σ H1
def FS (g : TG) (tb : TS) (D : Ends) (σ : L2.St) (v : V) (H1 : Hp) : Prop := ∃ x, v = .str x ∧ FW (Its x) g tb D σ H1
def FR1 (g : TG) (tb : TS) (D : Ends) (σ : L2.St) (vs : List V) (H1 : Hp) : Prop := ∃ j : Int, vs = [.int j] ∧ -(2 ^ 62) ≤ j ∧ j < 2 ^ 62 ∧ FW (Itr 0 j.toNat) g tb D σ H1
def FR2 (g : TG) (tb : TS) (D : Ends) (σ : L2.St) (vs : List V) (H1 : Hp) : Prop := ∃ i j : Int, vs = [.int i, .int j] ∧ (-(2 ^ 62) ≤ i ∧ i < 2 ^ 62 ∧ -(2 ^ 62) ≤ j ∧ j < 2 ^ 62) ∧ FW (Itr i (j - i).toNat) g tb D σ H1
def FZ (K : PySem.W.Frag) (g : TG) (tb : TS) (D : Ends) (σ : L2.St) (vs : List V) (H1 : Hp) : Prop := ∃ a b xs ys, vs = [.ref a, .ref b] ∧ SqL K H1 a xs ∧ SqL K H1 b ys ∧ FW (Itz K a b) g tb D σ H1
def FE (K : PySem.W.Frag) (g : TG) (tb : TS) (D : Ends) (σ : L2.St) (vs : List V) (H1 : Hp) : Prop := ∃ a xs, vs = [.ref a] ∧ SqL K H1 a xs ∧ FW (Ite K a) g tb D σ H1
section
variable {K : PySem.W.Frag} {σ : L2.St} {H : Hp} {D : Ends} {g : TG} {tb tu : TS} {te : TE} {ta : TA} {a b : Addr} {xs ys : List V}
theorem z_fl (q : te σ H fun x H1 => FL K g tb D σ x H1) : tFor (iList K te) g tb D σ H := q
theorem z_ft (q : te σ H fun x H1 => FT K g tb D σ x H1) : tFor (iTup K te) g tb D σ H := q
theorem z_fs (q : te σ H fun x H1 => FS g tb D σ x H1) : tFor (iStr te) g tb D σ H := q
theorem z_fr1 (q : ta σ H fun x H1 => FR1 g tb D σ x H1) : tFor (iRng1 ta) g tb D σ H := q
theorem z_fr2 (q : ta σ H fun x H1 => FR2 g tb D σ x H1) : tFor (iRng2 ta) g tb D σ H := q
theorem z_fz (q : ta σ H fun x H1 => FZ K g tb D σ x H1) : tFor (iZip K ta) g tb D σ H := q
theorem z_fe (q : ta σ H fun x H1 => FE K g tb D σ x H1) : tFor (iEnum K ta) g tb D σ H := q
/-- over a list: Pv by the turn, the slots, the heap -/
theorem z_FL (hx : SqL K H a xs) (Pv : Nat → L2.St → Hp → Prop) (h0 : Pv 0 σ H) (hG : ∀ i σ H, i ≤ xs.length → Pv i σ H → SqL K H a xs)
    (hs : ∀ i x σ H, i < xs.length → xs[i]? = some x → Pv i σ H → g x σ H fun σ2 H2 => tb { D with nx := Pv (i + 1), ct := Pv (i + 1), bk := D.nx } σ2 H2) (hd : ∀ σ H, Pv xs.length σ H → D.nx σ H) : FL K g tb D σ (.ref a) H :=
  ⟨a, rfl, ⟨xs, hx⟩, for_it walk_list Pv h0 hG (fun i x σ H H' hi p y => by
    obtain ⟨rfl, e⟩ := y
    exact hs i x σ _ hi e p) hd⟩
theorem z_FT (hx : SqT K H a xs) (Pv : Nat → L2.St → Hp → Prop) (h0 : Pv 0 σ H) (hG : ∀ i σ H, i ≤ xs.length → Pv i σ H → SqT K H a xs)
    (hs : ∀ i x σ H, i < xs.length → xs[i]? = some x → Pv i σ H → g x σ H fun σ2 H2 => tb { D with nx := Pv (i + 1), ct := Pv (i + 1), bk := D.nx } σ2 H2) (hd : ∀ σ H, Pv xs.length σ H → D.nx σ H) : FT K g tb D σ (.ref a) H :=
  ⟨a, rfl, ⟨xs, hx⟩, for_it walk_tup Pv h0 hG (fun i x σ H H' hi p y => by
    obtain ⟨rfl, e⟩ := y
    exact hs i x σ _ hi e p) hd⟩
theorem z_FS {z : Str} (Pv : Nat → L2.St → Hp → Prop) (h0 : Pv 0 σ H)
    (hs : ∀ i (c : Nat) σ H, i < z.cps.size → z.cps[i]? = some c → Pv i σ H → g (.str ⟨#[c]⟩) σ H fun σ2 H2 => tb { D with nx := Pv (i + 1), ct := Pv (i + 1), bk := D.nx } σ2 H2) (hd : ∀ σ H, Pv z.cps.size σ H → D.nx σ H) : FS g tb D σ (.str z) H :=
  ⟨z, rfl, for_it walk_str Pv h0 (fun _ _ _ _ _ => trivial) (fun i x σ H H' hi p y => by
    obtain ⟨rfl, c, e, rfl⟩ := y
    exact hs i c σ _ hi e p) hd⟩
theorem z_FR1 {n : Int} (hn : -(2 ^ 62) ≤ n ∧ n < 2 ^ 62) (Pv : Nat → L2.St → Hp → Prop) (h0 : Pv 0 σ H)
    (hs : ∀ (i : Nat) σ H, i < n.toNat → Pv i σ H → g (.int (i : Int)) σ H fun σ2 H2 => tb { D with nx := Pv (i + 1), ct := Pv (i + 1), bk := D.nx } σ2 H2) (hd : ∀ σ H, Pv n.toNat σ H → D.nx σ H) : FR1 g tb D σ [.int n] H :=
  ⟨n, rfl, hn.1, hn.2, for_it walk_range Pv h0 (fun _ _ _ _ _ => trivial) (fun i x σ H H' hi p y => by
    obtain ⟨rfl, rfl⟩ := y
    show g (.int (0 + (i : Int))) σ H' _
    rw [Int.zero_add]
    exact hs i σ _ hi p) hd⟩
theorem z_FZ {n : Nat} (hn : n = min xs.length ys.length) (hx : SqL K H a xs) (hy : SqL K H b ys) (Pv : Nat → L2.St → Hp → Prop) (h0 : Pv 0 σ H) (hG : ∀ i σ H, i ≤ n → Pv i σ H → SqL K H a xs ∧ SqL K H b ys)
    (hs : ∀ i x y p σ H H', i < n → xs[i]? = some x → ys[i]? = some y → Pv i σ H → Ex H H' → H p = none → H' = upd H p (.tup [x, y]) → g (.ref p) σ H' fun σ2 H2 => tb { D with nx := Pv (i + 1), ct := Pv (i + 1), bk := D.nx } σ2 H2) (hd : ∀ σ H, Pv n σ H → D.nx σ H) : FZ K g tb D σ [.ref a, .ref b] H :=
  ⟨a, b, xs, ys, rfl, hx, hy, for_it (walk_zip hn) Pv h0 hG (fun i x σ H H' hi p y => by
    obtain ⟨T, u, v, rfl, e1, rfl, e3, e4⟩ := y
    exact hs i u v T σ _ _ hi e3 e4 p (Ex.new e1) e1 rfl) hd⟩
theorem z_FE (hx : SqL K H a xs) (Pv : Nat → L2.St → Hp → Prop) (h0 : Pv 0 σ H) (hG : ∀ i σ H, i ≤ xs.length → Pv i σ H → SqL K H a xs)
    (hs : ∀ i x p σ H H', i < xs.length → xs[i]? = some x → Pv i σ H → Ex H H' → H p = none → H' = upd H p (.tup [.int (i : Nat), x]) → g (.ref p) σ H' fun σ2 H2 => tb { D with nx := Pv (i + 1), ct := Pv (i + 1), bk := D.nx } σ2 H2) (hd : ∀ σ H, Pv xs.length σ H → D.nx σ H) : FE K g tb D σ [.ref a] H :=
  ⟨a, xs, rfl, hx, for_it walk_enum Pv h0 hG (fun i x σ H H' hi p y => by
    obtain ⟨T, u, v, rfl, e1, rfl, e3, e4⟩ := y
    cases e3
    exact hs i v T σ _ _ hi e4 p (Ex.new e1) e1 rfl) hd⟩
theorem z_while {tc : TT} (W : Nat → L2.St → Hp → Prop) (m : Nat) (h0 : W m σ H) (hs : ∀ m σ H, W m σ H → tc σ H fun b H1 => if b = true then ∃ N : L2.St → Hp → Prop, (∀ σ' H', N σ' H' → ∃ m', m' < m ∧ W m' σ' H') ∧ tb { D with nx := N, ct := N, bk := D.nx } σ H1 else D.nx σ H1) : tWhile tc tb D σ H := ⟨W, ⟨m, h0⟩, hs⟩
end
/-! ### comprehensions -/
def CW (J : It) (g : TG) (tt : TT) (te : TE) (vs : List Nat) (σ : L2.St) (H1 : Hp) (Q : VK) : Prop := ∀ D, H1 D = none → ∃ W : Nat → Nat → Hp → Prop, (∃ m, W 0 m (upd H1 D (.lst []))) ∧ ∀ i m H, W i m H →
  (J.stop i H ∧ Q (.ref D) H) ∨ (J.go i H ∧ ∃ Nx : Hp → Prop, (∀ H', Nx H' → ∃ m', m' < m ∧ W (i + 1) m' H') ∧ ∀ x H', J.yld i H x H' → g x (wipe σ vs) H' fun σ2 H2 => wipe σ2 vs = wipe σ vs ∧ tt σ2 H2 fun b H3 =>
    if b = true then te σ2 H3 fun y H4 => ∃ acc, H4 D = some (.lst acc) ∧ acc.length < sizeLine ∧ Nx (upd H4 D (.lst (acc ++ [y]))) else Nx H3)
def CL (K : PySem.W.Frag) (g : TG) (tt : TT) (te : TE) (vs : List Nat) (σ : L2.St) (x : V) (H1 : Hp) (Q : VK) : Prop := ∃ a, x = .ref a ∧ (∃ xs, SqL K H1 a xs) ∧ CW (Itl K a) g tt te vs σ H1 Q
def CS (g : TG) (tt : TT) (te : TE) (vs : List Nat) (σ : L2.St) (x : V) (H1 : Hp) (Q : VK) : Prop := ∃ z, x = .str z ∧ CW (Its z) g tt te vs σ H1 Q
def CR1 (g : TG) (tt : TT) (te : TE) (vs : List Nat) (σ : L2.St) (xs : List V) (H1 : Hp) (Q : VK) : Prop := ∃ j : Int, xs = [.int j] ∧ -(2 ^ 62) ≤ j ∧ j < 2 ^ 62 ∧ CW (Itr 0 j.toNat) g tt te vs σ H1 Q
def CRv (g : TG) (tt : TT) (te : TE) (vs : List Nat) (σ : L2.St) (x : V) (H1 : Hp) (Q : VK) : Prop := ∃ n : Int, x = .int n ∧ (-(2 ^ 62) ≤ (0 : Int) ∧ (0 : Int) < 2 ^ 62 ∧ -(2 ^ 62) ≤ n ∧ n < 2 ^ 62 ∧ CW (Itc (0 + (((n - 0).toNat : Nat) : Int) - 1) (-1) (n - 0).toNat) g tt te vs σ H1 Q)
section
variable {K : PySem.W.Frag} {σ : L2.St} {H : Hp} {Q : VK} {g : TG} {tt : TT} {te tl : TE} {ta : TA} {vs : List Nat} {a : Addr} {xs : List V} {J : It} {n j : Nat} {G : Hp → Prop}
theorem z_cl (q : tl σ H fun x H1 => CL K g tt te vs σ x H1 Q) : tLc (iList K tl) g tt te vs σ H Q := q
theorem z_cs (q : tl σ H fun x H1 => CS g tt te vs σ x H1 Q) : tLc (iStr tl) g tt te vs σ H Q := q
theorem z_cr1 (q : ta σ H fun x H1 => CR1 g tt te vs σ x H1 Q) : tLc (iRng1 ta) g tt te vs σ H Q := q
theorem z_crv (q : tl σ H fun x H1 => CRv g tt te vs σ x H1 Q) : tLc (iRevR (tRg1 tl)) g tt te vs σ H Q := q
/-- things without objects of their own -/
theorem z_CW {X : Nat → V} (w : Walk J n G (fun i H x H' => H' = H ∧ x = X i)) (hn : n ≤ 40000) (hG : ∀ H', Ex H H' → G H') (f : Nat → Bool) (v : Nat → V) (hw : ∀ x, wipe ((wipe σ vs).set j (some x)) vs = wipe σ vs)
    (ht : ∀ i H', i < n → Ex H H' → Evl.EvT tt ((wipe σ vs).set j (some (X i))) H' (f i)) (he : ∀ i H', i < n → Ex H H' → f i = true → Evl.Ev te ((wipe σ vs).set j (some (X i))) H' (v i))
    (q : ∀ p H2, H p = none → Ex H H2 → H2 p = some (.lst (Evl.given n f v)) → Q (.ref p) H2) : CW J (gName j) tt te vs σ H Q := fun Dl hD =>
  lc_it w (Evl.Cw H f v Dl) ⟨hD, Ex.new hD, upd_same⟩ (fun _ _ _ p => hG _ p.2.1) (fun i x H1 H2 hi p y => by
    obtain ⟨rfl, rfl⟩ := y
    exact ⟨hw _, Evl.cw_turn p (by omega) (ht i H hi (Ex.refl H)) (fun hf => he i H hi (Ex.refl H) hf)⟩) (fun H' p => q Dl H' p.1 p.2.1 p.2.2)
theorem z_CL (hx : SqL K H a xs) (hz : xs.length ≤ 40000) (f : Nat → Bool) (v : Nat → V) (hw : ∀ x, wipe ((wipe σ vs).set j (some x)) vs = wipe σ vs)
    (ht : ∀ i x H', i < xs.length → xs[i]? = some x → Ex H H' → Evl.EvT tt ((wipe σ vs).set j (some x)) H' (f i)) (he : ∀ i x H', i < xs.length → xs[i]? = some x → Ex H H' → f i = true → Evl.Ev te ((wipe σ vs).set j (some x)) H' (v i))
    (q : ∀ p H2, H p = none → Ex H H2 → H2 p = some (.lst (Evl.given xs.length f v)) → Q (.ref p) H2) : CL K (gName j) tt te vs σ (.ref a) H Q :=
  ⟨a, rfl, ⟨xs, hx⟩, z_CW (X := fun i => xs.getD i .non) (walk_list.mono (fun _ h => h) (fun i H x H' _ _ y => ⟨y.1, by rw [List.getD_eq_getElem?_getD, y.2] <;> rfl⟩)) hz (fun _ e => ex_l e hx) f v hw
    (fun i H' hi e => ht i _ H' hi (by rw [List.getD_eq_getElem?_getD, List.getElem?_eq_getElem hi] <;> rfl) e) (fun i H' hi e hf => he i _ H' hi (by rw [List.getD_eq_getElem?_getD, List.getElem?_eq_getElem hi] <;> rfl) e hf) q⟩
theorem z_CR1 {m : Int} (hn : 0 ≤ m ∧ m ≤ 40000) (f : Nat → Bool) (v : Nat → V) (hw : ∀ x, wipe ((wipe σ vs).set j (some x)) vs = wipe σ vs)
    (ht : ∀ (i : Nat) H', i < m.toNat → Ex H H' → Evl.EvT tt ((wipe σ vs).set j (some (.int (i : Int)))) H' (f i)) (he : ∀ (i : Nat) H', i < m.toNat → Ex H H' → f i = true → Evl.Ev te ((wipe σ vs).set j (some (.int (i : Int)))) H' (v i))
    (q : ∀ p H2, H p = none → Ex H H2 → H2 p = some (.lst (Evl.given m.toNat f v)) → Q (.ref p) H2) : CR1 (gName j) tt te vs σ [.int m] H Q :=
  ⟨m, rfl, by omega, by omega, z_CW (X := fun i => .int (i : Int)) (walk_range.mono (fun _ h => h) (fun i H x H' _ _ y => ⟨y.1, by rw [y.2]; show V.int (0 + (i : Int)) = _; rw [Int.zero_add]⟩)) (by omega) (fun _ _ => trivial) f v hw ht he q⟩
theorem z_CRv {m : Nat} (hn : m ≤ 40000) (f : Nat → Bool) (v : Nat → V) (hw : ∀ x, wipe ((wipe σ vs).set j (some x)) vs = wipe σ vs)
    (ht : ∀ (i : Nat) H', i < m → Ex H H' → Evl.EvT tt ((wipe σ vs).set j (some (.int ((m - 1 - i : Nat) : Int)))) H' (f i)) (he : ∀ (i : Nat) H', i < m → Ex H H' → f i = true → Evl.Ev te ((wipe σ vs).set j (some (.int ((m - 1 - i : Nat) : Int)))) H' (v i))
    (q : ∀ p H2, H p = none → Ex H H2 → H2 p = some (.lst (Evl.given m f v)) → Q (.ref p) H2) : CRv (gName j) tt te vs σ (.int (m : Int)) H Q := by
  refine ⟨m, rfl, by decide, by decide, by omega, by omega, ?_⟩
  have e : ((m : Int) - 0).toNat = m := by omega
  rw [e]
  exact z_CW (X := fun i => .int ((m - 1 - i : Nat) : Int)) (walk_rangeC.mono (fun _ h => h) (fun i H x H' hi _ y => ⟨y.1, by
    rw [y.2]
    show V.int (0 + (m : Int) - 1 + (i : Int) * -1) = _
    congr 1
    omega⟩)) hn (fun _ _ => trivial) f v hw ht he q
theorem z_CS {z : Str} (hz : z.cps.size ≤ 40000) (f : Nat → Bool) (v : Nat → V) (hw : ∀ x, wipe ((wipe σ vs).set j (some x)) vs = wipe σ vs)
    (ht : ∀ i (c : Nat) H', i < z.cps.size → z.cps[i]? = some c → Ex H H' → Evl.EvT tt ((wipe σ vs).set j (some (.str ⟨#[c]⟩))) H' (f i)) (he : ∀ i (c : Nat) H', i < z.cps.size → z.cps[i]? = some c → Ex H H' → f i = true → Evl.Ev te ((wipe σ vs).set j (some (.str ⟨#[c]⟩))) H' (v i))
    (q : ∀ p H2, H p = none → Ex H H2 → H2 p = some (.lst (Evl.given z.cps.size f v)) → Q (.ref p) H2) : CS (gName j) tt te vs σ (.str z) H Q :=
  ⟨z, rfl, z_CW (X := fun i => .str ⟨#[z.cps.getD i 0]⟩) (walk_str.mono (fun _ h => h) (fun i H x H' _ _ y => by
      obtain ⟨e, c, e2, e3⟩ := y
      refine ⟨e, ?_⟩
      rw [e3]; congr 2; simp [Array.getD_eq_getD_getElem?, e2])) hz (fun _ _ => trivial) f v hw
    (fun i H' hi e => ht i _ H' hi (by simp [hi]) e) (fun i H' hi e hf => he i _ H' hi (by simp [hi]) e hf) q⟩
end
end Z
/-! ### data without truths: == is = -/
namespace Z
open PySem PySem.Spec PyProof.Rows L2
mutual
def cl : PyData → Bool
  | .none => true
  | .int _ => true
  | .str x => PyData.canLay0 (.str x)
  | .list xs => clAll xs
  | .tuple xs => clAll xs
  | .bool _ => false
  | .dict _ => false
def clAll : List PyData → Bool
  | [] => true
  | x :: xs => cl x && clAll xs
end
mutual
theorem cl_lay : ∀ d, cl d = true → d.canLay0 = true
  | .none, _ => rfl
  | .int _, _ => rfl
  | .str _, h => h
  | .list xs, h => clAll_lay xs h
  | .tuple xs, h => clAll_lay xs h
  | .bool _, h => by cases h
  | .dict _, h => by cases h
theorem clAll_lay : ∀ xs, clAll xs = true → PyData.canLayAll0 xs = true
  | [], _ => rfl
  | x :: xs, h => by
    have h' := Bool.and_eq_true_iff.mp (show (cl x && clAll xs) = true from h)
    show (x.canLay0 && PyData.canLayAll0 xs) = true
    rw [cl_lay x h'.1, clAll_lay xs h'.2] <;> rfl
end
mutual
theorem eqv_cl : ∀ d e : PyData, cl d = true → cl e = true → PyData.eqv d e = true → d = e
  | .none, e, _, he, h => by cases e <;> first | rfl | cases h
  | .int i, e, _, he, h => by
    cases e with
    | int j => rw [eq_of_beq (show (i == j) = true from h)]
    | bool _ => cases he
    | _ => cases h
  | .str x, e, _, he, h => by
    cases e with
    | str y => rw [eq_of_beq (show (x == y) = true from h)]
    | _ => cases h
  | .list xs, e, hd, he, h => by
    cases e with
    | list ys => rw [eqvAll_cl xs ys hd he h]
    | _ => cases h
  | .tuple xs, e, hd, he, h => by
    cases e with
    | tuple ys => rw [eqvAll_cl xs ys hd he h]
    | _ => cases h
  | .bool _, _, hd, _, _ => by cases hd
  | .dict _, _, hd, _, _ => by cases hd
theorem eqvAll_cl : ∀ xs ys : List PyData, clAll xs = true → clAll ys = true → PyData.eqvAll xs ys = true → xs = ys
  | [], [], _, _, _ => rfl
  | [], _ :: _, _, _, h => by cases h
  | _ :: _, [], _, _, h => by cases h
  | x :: xs, y :: ys, hd, he, h => by
    have h1 := Bool.and_eq_true_iff.mp (show (cl x && clAll xs) = true from hd)
    have h2 := Bool.and_eq_true_iff.mp (show (cl y && clAll ys) = true from he)
    have h3 := Bool.and_eq_true_iff.mp (show (PyData.eqv x y && PyData.eqvAll xs ys) = true from h)
    rw [eqv_cl x y h1.1 h2.1 h3.1, eqvAll_cl xs ys h1.2 h2.2 h3.2]
end
theorem eqv_iff {d e : PyData} (hd : cl d = true) (he : cl e = true) : PyData.eqv d e = true ↔ d = e :=
  ⟨eqv_cl d e hd he, fun h => by
    rw [h]
    exact SeqAt.eqv_refl e (cl_lay e he)⟩
theorem shaped_cl {d : PyData} (hd : cl d = true) (h : d.depth ≤ 64) : SeqAt.shaped d = true := Bool.and_eq_true_iff.mpr ⟨cl_lay d hd, decide_eq_true h⟩
section
variable {K : PySem.W.Frag} {H : Hp} {Q : VK} {x y : V} {d e : PyData}
/-- == over such data -/
theorem z_eqD {b : Bool} (hx : Dp K H x d) (hy : Dp K H y e) (cd : cl d = true) (ce : cl e = true) (dd : d.depth ≤ 64) (de : e.depth ≤ 64) (hb : b = true ↔ d = e) (q : Q (.bl b) H) : rEqD K x y H Q := by
  refine ⟨d, e, hx, hy, shaped_cl cd dd, shaped_cl ce de, ?_⟩
  have e2 : PyData.eqv d e = b := by
    have h := eqv_iff cd ce
    cases hb2 : PyData.eqv d e with
    | true => exact (hb.mpr (h.mp hb2)).symm
    | false =>
      cases b with
      | false => rfl
      | true => exact absurd (h.mpr (hb.mp rfl)) (by rw [hb2]; decide)
  rw [e2]
  exact q
theorem z_neD {b : Bool} (hx : Dp K H x d) (hy : Dp K H y e) (cd : cl d = true) (ce : cl e = true) (dd : d.depth ≤ 64) (de : e.depth ≤ 64) (hb : b = true ↔ d = e) (q : Q (.bl (!b)) H) : rNeD K x y H Q := by
  refine ⟨d, e, hx, hy, shaped_cl cd dd, shaped_cl ce de, ?_⟩
  have e2 : PyData.eqv d e = b := by
    have h := eqv_iff cd ce
    cases hb2 : PyData.eqv d e with
    | true => exact (hb.mpr (h.mp hb2)).symm
    | false =>
      cases b with
      | false => rfl
      | true => exact absurd (h.mpr (hb.mp rfl)) (by rw [hb2]; decide)
  rw [e2]
  exact q
theorem dp_ints : ∀ l : List Int, DpAll K H (l.map V.int) (l.map PyData.int)
  | [] => .nil
  | i :: l => .cons (.int i) (dp_ints l)
theorem cl_ints : ∀ l : List Int, clAll (l.map PyData.int) = true
  | [] => rfl
  | _ :: l => cl_ints l
theorem depth_ints : ∀ l : List Int, PyData.depthAll (l.map PyData.int) = 0
  | [] => rfl
  | i :: l => by
    show max 0 (PyData.depthAll (l.map PyData.int)) = 0
    rw [depth_ints l] <;> rfl
theorem ints_inj {l m : List Int} (h : l.map PyData.int = m.map PyData.int) : l = m := by
  have e := congrArg (List.map fun d => match d with
    | PyData.int i => i
    | _ => 0) h
  rw [List.map_map, List.map_map] at e
  have f : ∀ l : List Int, List.map ((fun d => match d with
    | PyData.int i => i
    | _ => 0) ∘ PyData.int) l = l := fun l => by
    induction l with
    | nil => rfl
    | cons a l ih => rw [List.map_cons, ih] <;> rfl
  rw [f, f] at e
  exact e
theorem z_eqL {a c : Addr} {l m : List Int} {b : Bool} (hx : SqL K H a (l.map V.int)) (hy : SqL K H c (m.map V.int)) (hb : b = true ↔ l = m) (q : Q (.bl b) H) : rEqD K (.ref a) (.ref c) H Q :=
  z_eqD (.lst hx (dp_ints l)) (.lst hy (dp_ints m)) (cl_ints l) (cl_ints m) (by show PyData.depthAll _ + 1 ≤ 64; rw [depth_ints]; decide) (by show PyData.depthAll _ + 1 ≤ 64; rw [depth_ints]; decide)
    (hb.trans ⟨fun h => by rw [h], fun h => ints_inj (by injection h)⟩) q
end
end Z
/-! ### texts as lists of signs -/
namespace Z
open PySem PySem.Spec PyProof.Rows L2
open Evl (Ex ex_l ex_t ex_rd sq_of st_of fresh_back)
def S (l : List Nat) : Str := ⟨l.toArray⟩
theorem S_len (l : List Nat) : (S l).length = l.length := by
  show l.toArray.size = _
  simp
theorem S_size (l : List Nat) : (S l).cps.size = l.length := S_len l
theorem S_tl (l : List Nat) : (S l).cps.toList = l := by
  show l.toArray.toList = l
  simp
theorem S_of (s : Str) : s = S s.cps.toList := by
  cases s with
  | mk a => simp [S]
theorem S_app (l m : List Nat) : S l ++ S m = S (l ++ m) := by
  show (⟨l.toArray ++ m.toArray⟩ : Str) = ⟨(l ++ m).toArray⟩
  simp
theorem S_inj {l m : List Nat} (h : S l = S m) : l = m := by rw [← S_tl l, h, S_tl]
theorem S_iff {l m : List Nat} : S l = S m ↔ l = m := ⟨S_inj, fun h => by rw [h]⟩
theorem S_get (l : List Nat) (i : Nat) : (S l).cps[i]? = l[i]? := by
  show l.toArray[i]? = _
  simp
/-- a slice by places -/
def cutL (l : List Nat) (lo hi : Option Int) : List Nat := (l.drop (HT.sIx l.length 0 lo)).take (HT.sIx l.length l.length hi - HT.sIx l.length 0 lo)
theorem S_cut (l : List Nat) (lo hi : Option Int) : cutS (S l) lo hi = S (cutL l lo hi) := by
  show (⟨(((S l).cps.toList.drop (HT.sIx (S l).length 0 lo)).take (HT.sIx (S l).length (S l).length hi - HT.sIx (S l).length 0 lo)).toArray⟩ : Str) = _
  rw [S_tl, S_len] <;> rfl
theorem cutL_to (l : List Nat) (n : Nat) : cutL l none (some (n : Int)) = l.take n := by
  unfold cutL
  rw [HT.sIx_none, HT.sIx_nat, List.drop_zero, Nat.sub_zero]
  by_cases h : n ≤ l.length
  · rw [Nat.min_eq_left h]
  · rw [Nat.min_eq_right (by omega), List.take_length, List.take_of_length_le (by omega)]
theorem cutL_from (l : List Nat) (n : Nat) : cutL l (some (n : Int)) none = l.drop n := by
  unfold cutL
  rw [HT.sIx_none, HT.sIx_nat]
  by_cases h : n ≤ l.length
  · rw [Nat.min_eq_left h, List.take_of_length_le (by rw [List.length_drop]; omega)]
  · rw [Nat.min_eq_right (by omega), List.drop_eq_nil_of_le (Nat.le_refl _), List.drop_eq_nil_of_le (by omega), List.take_nil]
theorem cutL_mid (l : List Nat) (m n : Nat) : cutL l (some (m : Int)) (some (n : Int)) = (l.drop m).take (n - m) := by
  unfold cutL
  rw [HT.sIx_nat, HT.sIx_nat]
  by_cases h : m ≤ l.length
  · rw [Nat.min_eq_left h]
    by_cases h2 : n ≤ l.length
    · rw [Nat.min_eq_left h2]
    · rw [Nat.min_eq_right (by omega), List.take_of_length_le (by rw [List.length_drop]; omega), List.take_of_length_le (by rw [List.length_drop]; omega)]
  · rw [List.drop_eq_nil_of_le (by omega), List.drop_eq_nil_of_le (by omega), List.take_nil, List.take_nil]
theorem cutS_le (s : Str) (lo hi : Option Int) : (cutS s lo hi).length ≤ s.length := cutS_length s lo hi
theorem join_S (ls : List (List Nat)) : Txt.join (S []) (ls.map S) = S ls.flatten := by
  rw [TL.join_eq, S_of (Str.join _ _)]
  congr 1
  show TL.tl (Str.join (S []) (ls.map S)) = _
  rw [TL.tl_join]
  have e : TL.tl (S []) = [] := rfl
  have f : ∀ ls : List (List Nat), (ls.map S).map TL.tl = ls := fun ls => by
    rw [List.map_map]
    refine (List.map_congr_left (g := id) fun l _ => S_tl l).trans (List.map_id _)
  rw [e, f]
  have g : ∀ ls : List (List Nat), TL.joinL [] ls = ls.flatten := fun ls => by
    induction ls with
    | nil => rfl
    | cons a r ih =>
      cases r with
      | nil => simp [TL.joinL]
      | cons b r => simp [TL.joinL, ih] at *
  exact g ls
theorem txt_app_len (s z : Str) : (s ++ z).length = s.length + z.length := by
  show (s.cps ++ z.cps).size = _
  rw [Array.size_append] <;> rfl
theorem mul_len (s : Str) (n : Int) (hn : 0 ≤ n) : (Txt.mul s n).length ≤ s.length * n.toNat := by
  unfold Txt.mul
  by_cases h : n < 1
  · rw [if_pos h]
    exact Nat.zero_le _
  · rw [if_neg h]
    by_cases h2 : (n == 1 || s.length == 0) = true
    · rw [if_pos h2]
      exact Nat.le_mul_of_pos_right _ (by omega)
    · rw [if_neg h2]
      show ((List.replicate n.toNat s.cps).foldl (· ++ ·) #[]).size ≤ _
      have g : ∀ (k : Nat) (a : Array Nat), ((List.replicate k s.cps).foldl (· ++ ·) a).size = a.size + s.length * k := fun k => by
        induction k with
        | zero => intro a; simp
        | succ k ih =>
          intro a
          rw [List.replicate_succ, List.foldl_cons, ih, Array.size_append, Nat.mul_succ]
          show a.size + s.cps.size + s.length * k = a.size + (s.length * k + s.cps.size)
          omega
      rw [g]
      simp
theorem mul_ok (s : Str) (n : Int) (h0 : 0 ≤ n) (hn : n ≤ 1000) (hs : s.length ≤ 1000) : MulOk s n := by
  refine ⟨by rw [decide_eq_false (by omega), decide_eq_false (by omega)] <;> rfl, fun h _ => ?_, fun h _ => ?_⟩
  · have : (2 ^ 63 - 1) / 1000 ≤ (2 ^ 63 - 1 : Int) / n := by
      rw [Int.le_ediv_iff_mul_le (by omega)]
      have : (2 ^ 63 - 1 : Int) / 1000 * n ≤ (2 ^ 63 - 1) / 1000 * 1000 := Int.mul_le_mul_of_nonneg_left hn (by decide)
      exact Int.le_trans this (by decide)
    have e : ((2 ^ 63 - 1 : Int)) / 1000 = 9223372036854775 := by decide
    omega
  · have : s.length * n.toNat ≤ 1000 * 1000 := Nat.mul_le_mul hs (by omega)
    show decide (s.length * n.toNat > sizeLine) = false
    exact decide_eq_false (by rw [sizeLine_eq]; omega)
end Z
/-! ### a head's facts and one test more -/
namespace Z
open PySem PySem.Spec PyProof.Rows L2 He
def lookZ (fa : List Fa) (fn : List DefD) (ex : PySem.W.Frag → Bool) (n : Nat) (g : Addr → Option Obj) : AlD × Bool :=
  (obsD fa fn (frG g (asD g n)), ex (frG g (asD g n)))
def hookZ (fa : List Fa) (fn : List DefD) (ex : PySem.W.Frag → Bool) (n : Nat) : PySem.W.Hook where
  α := AlD × Bool
  obs := fun st => lookZ fa fn ex n st.heap.get?
  val := fun _ => (valD fn, true)
  says := fun _ hp => ∃ F : PySem.W.Frag, F.In hp ∧ SaysD fa fn F ∧ ex F = true
  of := fun _ _ eq => ⟨_, frG_in, congrArg Prod.fst eq, congrArg Prod.snd eq⟩
  keeps := fun _ _ _ ⟨F, hF, cF, xF⟩ kp => ⟨F, PySem.W.Frag.In.keeps hF kp, cF, xF⟩
theorem lookZ_eq {fa : List Fa} {fn : List DefD} {ex : PySem.W.Frag → Bool} {n : Nat} {g : Addr → Option Obj} {st : Shared} (hg : ∀ a, g a = st.heap.get? a) : lookZ fa fn ex n g = (hookZ fa fn ex n).obs st := by
  have e : g = st.heap.get? := funext hg
  subst e
  rfl
end Z
/-! ### data, an elder heap's -/
namespace Z
open PySem PySem.Spec PyProof.Rows L2
open Evl (Ex ex_l ex_t ex_rd sq_of st_of fresh_back)
mutual
theorem dp_mono {K : PySem.W.Frag} {H H' : Hp} (e : Ex H H') : ∀ {v : V} {d : PyData}, Dp K H v d → Dp K H' v d
  | _, _, .non => .non
  | _, _, .bl b => .bl b
  | _, _, .int i => .int i
  | _, _, .str x => .str x
  | _, _, .lst s a => .lst (ex_l e s) (dpAll_mono e a)
  | _, _, .tup s a => .tup (ex_t e s) (dpAll_mono e a)
theorem dpAll_mono {K : PySem.W.Frag} {H H' : Hp} (e : Ex H H') : ∀ {vs : List V} {ds : List PyData}, DpAll K H vs ds → DpAll K H' vs ds
  | _, _, .nil => .nil
  | _, _, .cons a r => .cons (dp_mono e a) (dpAll_mono e r)
end
theorem dpAll_app {K : PySem.W.Frag} {H : Hp} : ∀ {vs us : List V} {ds es : List PyData}, DpAll K H vs ds → DpAll K H us es → DpAll K H (vs ++ us) (ds ++ es)
  | _, _, _, _, .nil, b => b
  | _, _, _, _, .cons a r, b => .cons a (dpAll_app r b)
theorem dpAll_len {K : PySem.W.Frag} {H : Hp} : ∀ {vs : List V} {ds : List PyData}, DpAll K H vs ds → vs.length = ds.length
  | _, _, .nil => rfl
  | _, _, .cons _ r => by rw [List.length_cons, List.length_cons, dpAll_len r]
theorem dpAll_get {K : PySem.W.Frag} {H : Hp} : ∀ {vs : List V} {ds : List PyData} {i : Nat} {v : V}, DpAll K H vs ds → vs[i]? = some v → ∃ d, ds[i]? = some d ∧ Dp K H v d
  | _, _, _, _, .nil, h => by simp at h
  | _, _, 0, _, .cons a _, h => by
    cases h
    exact ⟨_, rfl, a⟩
  | _, _, i + 1, _, .cons _ r, h => dpAll_get (i := i) r h
theorem ty_tup {K : PySem.W.Frag} {H : Hp} {a : Addr} {xs : List V} (h : SqT K H a xs) : TyX K H (.ref a) (.type "tuple") := by
  rcases h with (h | ⟨o, h⟩) | ⟨o, its, n, h, hc, _⟩
  · exact .base (.tup h)
  · exact .fTuple h
  · exact .kTuple h hc
theorem ty_lst {K : PySem.W.Frag} {H : Hp} {a : Addr} {xs : List V} (h : SqL K H a xs) : TyX K H (.ref a) (.type "list") := by
  rcases h with (h | ⟨o, h⟩) | ⟨o, its, n, h, hc, _⟩
  · exact .base (.lst h)
  · exact .base (.frz h)
  · exact .kList h hc
/-- a new thing that bears data: I, what was known, grows to J -/
def RetD (K : PySem.W.Frag) (d : PyData) (I H : Hp) (Q : VK) : Prop :=
  ∀ v J H', Ex I J → Ex H H' → Ex J H' → (∀ a o, H a = some o → I a = none → J a = none) → Dp K J v d → Q v H'
/-- a new list of such things -/
def RetLD (K : PySem.W.Frag) (ds : List PyData) (H : Hp) (Q : VK) : Prop :=
  ∀ p xs H', H p = none → Ex H H' → H' p = some (.lst xs) → DpAll K H' xs ds → Q (.ref p) H'
/-- a new tuple over what is known -/
theorem RetD.tup {K : PySem.W.Frag} {ds : List PyData} {I H : Hp} {Q : VK} {p : Addr} {xs : List V} (q : RetD K (.tuple ds) I H Q) (e : Ex I H) (hp : H p = none) (h : DpAll K I xs ds) : Q (.ref p) (upd H p (.tup xs)) := by
  have ip : I p = none := fresh_back e hp
  refine q (.ref p) (upd I p (.tup xs)) _ (Ex.new ip) (Ex.new hp) (fun b o hb => ?_) (fun a o ha hI => ?_) (.tup (st_of upd_same) (dpAll_mono (Ex.new ip) h))
  · by_cases hbp : b = p
    · subst hbp
      rw [upd_same] at hb ⊢
      exact hb
    · rw [upd_ne hbp] at hb ⊢
      exact e b o hb
  · have ne : a ≠ p := fun z => by
      rw [z, hp] at ha
      cases ha
    rw [upd_ne ne]
    exact hI
end Z

set_option Elab.async false
set_option linter.all false
set_option maxRecDepth 100000
set_option maxHeartbeats 4000000
/-! Zc: methods and makings of own classes, in short steps. -/
namespace Z
open PySem PySem.Spec PyProof.Rows L2
/-- a method's text, as it stands behind the top -/
def DM (K : PySem.W.Frag) (C m qual : Str) (st : Stmt) : Prop := ∃ fd, FunD K m qual (defArgs st) (defBody st) (defScope st) [] [] (He.ma K (He.ga K C) m) fd
def inCls (st : Stmt) (j : Nat) : Stmt := match st with
  | .ClassDef (body := b) .. => b.getD j (.Pass ⟨0, 0, 0, 0⟩)
  | _ => .Pass ⟨0, 0, 0, 0⟩
structure CalM (P : Program) (w : World) (K : PySem.W.Frag) (mg : Str → Option Value) (base : Heap) (k : Nat) (C : Addr) (m : Str) (sp : Sp) : Prop where
  ex : ∃ (fd : FuncData) (ps : List Str), FnOk P w K mg base CX0 k (He.ma K C m) fd ps sp ∧ Cls K C ∧ Meth K C m (He.ma K C m) ∧ Binds K fd ps []
structure CalI (P : Program) (w : World) (K : PySem.W.Frag) (mg : Str → Option Value) (base : Heap) (k : Nat) (x : Str) (C : Addr) (sp : Sp) : Prop where
  ex : ∃ (fd : FuncData) (ps : List Str), FnOk P w K mg base CX0 k (He.ma K C "__init__") fd ps sp ∧ Mk K C (He.ma K C "__init__") ∧ mg x = some (.ref C) ∧ Binds K fd ps []
section
variable {P : Program} {w : World} {K : PySem.W.Frag} {mg : Str → Option Value} {base : Heap}
theorem fn_mk {C m qual : Str} {st : Stmt} {N ps : List Str} {k : Nat} {sp : Sp} {t : TS} (D : DM K C m qual st) (S : FnScope N ps (defScope st))
    (hb : ∀ (kV doc pm : Value) (an : Option Addr) (cdv ct : Value) (us : List Value), us.length = ps.length → bindArgs (PySem.W.fnOf m qual (defArgs st) (defBody st) (defScope st) .none kV doc pm an cdv ct) ⟨us, []⟩ = pure (ps.zip us))
    (len : ∀ vs H Q E, sp vs H Q E → vs.length = ps.length)
    (hd : ∀ (f : Addr) (cdv : Value) (A : Around) (outer : List Env) (s : Shared) (H : Hp) (E : XK), Room k (A.deeper (envOfC qual (defScope st) s.heap.objs.size f cdv)) → PSs (cxOf CX0 P w K mg base N qual (defScope st) f cdv A outer s H E).nox (defBody st) t)
    (hv : ∀ vs H Q E, sp vs H Q E → t { nx := fun _ H' => Q .non H', rt := Q } (start N vs) H) : ∃ fd, FnOk P w K mg base CX0 (k + 1) (He.ma K (He.ga K C) m) fd ps sp ∧ Binds K fd ps [] := by
  obtain ⟨fd, F⟩ := D
  exact ⟨fd, F.ok S len fun cdv A outer s H vs Q E hr h => ⟨t, PSs.nox (hd _ cdv A outer s H E hr), hv vs H Q E h⟩, F.bindsN hb⟩
theorem calM_mk {C m qual : Str} {st : Stmt} {N ps : List Str} {k : Nat} {sp : Sp} {t : TS} (c : Cls K (He.ga K C)) (me : Meth K (He.ga K C) m (He.ma K (He.ga K C) m)) (D : DM K C m qual st) (S : FnScope N ps (defScope st))
    (hb : ∀ (kV doc pm : Value) (an : Option Addr) (cdv ct : Value) (us : List Value), us.length = ps.length → bindArgs (PySem.W.fnOf m qual (defArgs st) (defBody st) (defScope st) .none kV doc pm an cdv ct) ⟨us, []⟩ = pure (ps.zip us))
    (len : ∀ vs H Q E, sp vs H Q E → vs.length = ps.length)
    (hd : ∀ (f : Addr) (cdv : Value) (A : Around) (outer : List Env) (s : Shared) (H : Hp) (E : XK), Room k (A.deeper (envOfC qual (defScope st) s.heap.objs.size f cdv)) → PSs (cxOf CX0 P w K mg base N qual (defScope st) f cdv A outer s H E).nox (defBody st) t)
    (hv : ∀ vs H Q E, sp vs H Q E → t { nx := fun _ H' => Q .non H', rt := Q } (start N vs) H) : CalM P w K mg base (k + 1) (He.ga K C) m sp := by
  obtain ⟨fd, F, b⟩ := fn_mk D S hb len hd hv
  exact ⟨fd, ps, F, c, me, b⟩
theorem calI_mk {C qual : Str} {st : Stmt} {N ps : List Str} {k : Nat} {sp : Sp} {t : TS} (M : Mk K (He.ga K C) (He.ma K (He.ga K C) "__init__")) (g : mg C = some (.ref (He.ga K C))) (D : DM K C "__init__" qual st) (S : FnScope N ps (defScope st))
    (hb : ∀ (kV doc pm : Value) (an : Option Addr) (cdv ct : Value) (us : List Value), us.length = ps.length → bindArgs (PySem.W.fnOf "__init__" qual (defArgs st) (defBody st) (defScope st) .none kV doc pm an cdv ct) ⟨us, []⟩ = pure (ps.zip us))
    (len : ∀ vs H Q E, sp vs H Q E → vs.length = ps.length)
    (hd : ∀ (f : Addr) (cdv : Value) (A : Around) (outer : List Env) (s : Shared) (H : Hp) (E : XK), Room k (A.deeper (envOfC qual (defScope st) s.heap.objs.size f cdv)) → PSs (cxOf CX0 P w K mg base N qual (defScope st) f cdv A outer s H E).nox (defBody st) t)
    (hv : ∀ vs H Q E, sp vs H Q E → t { nx := fun _ H' => Q .non H', rt := Q } (start N vs) H) : CalI P w K mg base (k + 1) C (He.ga K C) sp := by
  obtain ⟨fd, F, b⟩ := fn_mk D S hb len hd hv
  exact ⟨fd, ps, F, M, g, b⟩
end
section
variable {X : Cx} {k j : Nat} {x m : Str} {C : Addr} {sp : Sp} {p pos apos : Pos} {e o : Expr} {es : List Expr} {t : TA} {ta : TE}
theorem pe_m {pl : Sem Bool} (c : CalM X.prog X.w X.K X.mg X.base k C m sp) (hr : Room j X.A) (hk : k ≤ j) (he : PE X o ta) (ha : PA X (e :: es) t)
    (h1 : starEach (e :: es) X.env = (false, eval e X.env) :: starEach es X.env := by rfl) (h2 : (backTo pos (starEach es X.env)).any (·.1) = false := by rfl)
    (h3 : eval (.Call (.Attribute o m apos) (e :: es) [] pos) X.env = (eval o X.env >>= fun ov => standAt apos.atName >>= fun _ => holding [ov] (getMethod ov m pl) >>= fun gf => callWith pos gf.1 gf.2 (backTo pos (starEach (e :: es) X.env)) (backToKw pos (keywordEach [] X.env))) := by rfl) :
    PE X (.Call (.Attribute o m apos) (e :: es) [] pos) (tMeth C m sp [] E0 ta t) := by
  obtain ⟨fd, ps, F, hc, hm, b⟩ := c.ex
  exact pe_meth (pl := pl) he hc hm F (hr.mono hk) b .nil pass0 ha h1 h2 h3
theorem pe_m0 {pl : Sem Bool} (c : CalM X.prog X.w X.K X.mg X.base k C m sp) (hr : Room j X.A) (hk : k ≤ j) (he : PE X o ta)
    (h3 : eval (.Call (.Attribute o m apos) [] [] pos) X.env = (eval o X.env >>= fun ov => standAt apos.atName >>= fun _ => holding [ov] (getMethod ov m pl) >>= fun gf => callWith pos gf.1 gf.2 (backTo pos (starEach [] X.env)) (backToKw pos (keywordEach [] X.env))) := by rfl) :
    PE X (.Call (.Attribute o m apos) [] [] pos) (tMeth C m sp [] E0 ta tNil) := by
  obtain ⟨fd, ps, F, hc, hm, b⟩ := c.ex
  exact pe_meth0 (pl := pl) he hc hm F (hr.mono hk) b .nil pass0 h3
theorem pe_i (c : CalI X.prog X.w X.K X.mg X.base k x C sp) (hr : Room j X.A) (hk : k + 1 ≤ j) (hg : Gl X x) (ha : PA X (e :: es) t)
    (hdb : (x == ("__debug__" : Str)) = false := by decide) (h1 : starEach (e :: es) X.env = (false, eval e X.env) :: starEach es X.env := by rfl) (h2 : (backTo pos (starEach es X.env)).any (·.1) = false := by rfl) :
    PE X (.Call (.Name x p) (e :: es) [] pos) (tMake C sp [] E0 t) := by
  obtain ⟨fd, ps, F, M, hm, b⟩ := c.ex
  exact pe_make M F (hr.mono hk) hg hm b .nil pass0 ha hdb h1 h2
theorem pe_i0 (c : CalI X.prog X.w X.K X.mg X.base k x C sp) (hr : Room j X.A) (hk : k + 1 ≤ j) (hg : Gl X x) (hdb : (x == ("__debug__" : Str)) = false := by decide) :
    PE X (.Call (.Name x p) [] [] pos) (tMake C sp [] E0 tNil) := by
  obtain ⟨fd, ps, F, M, hm, b⟩ := c.ex
  exact pe_make0 M F (hr.mono hk) hg hm b .nil pass0 hdb
end
/-! ### steps -/
def FldR (K : PySem.W.Frag) (f : Str) (x : V) (H : Hp) (Q : VK) : Prop := ∃ a C dx fs v, x = .ref a ∧ H a = some (.ins C dx fs) ∧ Cls K C ∧ NoAttr K C f ∧ fs.lookup f = some v ∧ Q v H
def FldW (K : PySem.W.Frag) (f : Str) (y x : V) (σ : L2.St) (H : Hp) (D : Ends) : Prop := ∃ a C dx fs, x = .ref a ∧ H a = some (.ins C dx fs) ∧ Cls K C ∧ NoAttr K C f ∧ fs.length < 1000 ∧ D.nx σ (upd H a (.ins C dx (putF f y fs)))
def MethR (C : Addr) (m : Str) (sp : Sp) (t : TA) (σ : L2.St) (Q : VK) (x : V) (H : Hp) : Prop := ∃ a dx fs, x = .ref a ∧ H a = some (.ins C dx fs) ∧ fs.lookup m = none ∧ t σ H fun vs H2 => sp (x :: (vs ++ [])) H2 Q E0
section
variable {K : PySem.W.Frag} {σ : L2.St} {H : Hp} {Q : VK} {D : Ends} {ta tv : TE} {t : TA} {f m : Str} {C a dx : Addr} {fs : List (Str × V)} {v x : V} {sp : Sp}
theorem z_fld (q : ta σ H fun x H1 => FldR K f x H1 Q) : tFld K ta f σ H Q := q
theorem z_fldR (h : H a = some (.ins C dx fs)) (c : Cls K C) (n : NoAttr K C f) (e : fs.lookup f = some v) (q : Q v H) : FldR K f (.ref a) H Q := ⟨a, C, dx, fs, v, rfl, h, c, n, e, q⟩
theorem z_sfld (q : tv σ H fun y H1 => ta σ H1 fun x H2 => FldW K f y x σ H2 D) : sFld K ta tv f D σ H := q
theorem z_fldW (h : H a = some (.ins C dx fs)) (c : Cls K C) (n : NoAttr K C f) (l : fs.length < 1000) (q : D.nx σ (upd H a (.ins C dx (putF f v fs)))) : FldW K f v (.ref a) σ H D := ⟨a, C, dx, fs, rfl, h, c, n, l, q⟩
theorem z_meth (q : ta σ H fun x H1 => MethR C m sp t σ Q x H1) : tMeth C m sp [] E0 ta t σ H Q := q
theorem z_methR (h : H a = some (.ins C dx fs)) (e : fs.lookup m = none) (q : t σ H fun vs H2 => sp (.ref a :: (vs ++ [])) H2 Q E0) : MethR C m sp t σ Q (.ref a) H := ⟨a, dx, fs, rfl, h, e, q⟩
theorem z_make (q : t σ H fun vs H1 => ∀ x dx, H1 x = none → H1 dx = none → dx ≠ x → sp (.ref x :: (vs ++ [])) (upd (upd H1 dx (.own x)) x (.ins C dx [])) (fun v H2 => v = .non ∧ Q (.ref x) H2) E0) : tMake C sp [] E0 t σ H Q := q
end
/-! ### more short steps -/
abbrev cTupOf (K : PySem.W.Frag) : List V → Hp → VK → Prop := fun xs H Q => ∃ p ys, xs = [.ref p] ∧ ((SqL K H p ys ∧ ∀ l, H l = none → Q (.ref l) (upd H l (.tup ys))) ∨ (SqT K H p ys ∧ Q (.ref p) H))
abbrev cListOf (K : PySem.W.Frag) : List V → Hp → VK → Prop := fun xs H Q => ∃ p ys, xs = [.ref p] ∧ (SqL K H p ys ∨ SqT K H p ys) ∧ ∀ l, H l = none → Q (.ref l) (upd H l (.lst ys))
theorem at_some {α : Type} {l : List α} {i : Int} (h0 : 0 ≤ i) (h : i < l.length) : ∃ c, atI l i = some c ∧ c ∈ l := by
  obtain ⟨j, rfl⟩ := Int.eq_ofNat_of_zero_le h0
  have hj : j < l.length := Int.ofNat_lt.mp h
  exact ⟨l[j], atI_nat (List.getElem?_eq_getElem hj), List.getElem_mem hj⟩
/-- xs != [], xs == [], of lists of any things that are data without truths -/
theorem z_neNil {K : PySem.W.Frag} {H : Hp} {Q : VK} {a c : Addr} {xs : List V} {ds : List PyData} (hx : SqL K H a xs) (hd : DpAll K H xs ds) (hc : SqL K H c []) (cl : clAll ds = true) (dd : PyData.depthAll ds + 1 ≤ 64) (q : Q (.bl (!xs.isEmpty)) H) : rNeD K (.ref a) (.ref c) H Q := by
  refine z_neD (b := xs.isEmpty) (.lst hx hd) (.lst hc .nil) cl rfl dd (by decide) ?_ q
  cases hd with
  | nil => exact ⟨fun _ => rfl, fun _ => rfl⟩
  | cons a r => exact ⟨fun h => (by cases h), fun h => (by cases h)⟩
section
variable {σ : L2.St} {H : Hp} {D : Ends} {ta : TA} {i j : Nat} {to ti : TE} {t : TSet} {v : V} {QS : L2.St → Hp → Prop}
theorem z_par (q : ta σ H fun vs H1 => ∃ v w, vs = [v, w] ∧ D.nx ((σ.set i (some v)).set j (some w)) H1) : tPar i j ta D σ H := q
theorem z_gsub (q : to σ H fun o H1 => ti σ H1 fun i H2 => t o i v H2 fun H3 => QS σ H3) : gSub to ti t v σ H QS := q
end
end Z

set_option Elab.async false
set_option linter.all false
set_option maxRecDepth 100000
set_option maxHeartbeats 4000000
/-! Zd: dicts: update, a dict held beside an empty one; short steps. -/
namespace Z
open PySem PySem.Spec PyProof.Rows L2
/-- d.update(e) -/
def rDUpd : V → List V → Hp → VK → Prop := fun x vs H Q => ∃ (a c : Addr) (kvs more : List (Key × V)), x = .ref a ∧ vs = [.ref c] ∧ H a = some (.dK kvs) ∧ Rd H c (.dK more) ∧ a ≠ c ∧ kvs.length + more.length ≤ sizeLine ∧ Q .non (upd H a (.dK (mergeK kvs more)))
theorem mt_dupd {X : Cx} : MtR X "dict.update" rDUpd := by
  intro pins s σ H x vs v us Q I rx rv h
  obtain ⟨a, c, kvs, more, rfl, rfl, ea, ec, ne, sz, q⟩ := h
  cases rx
  obtain ⟨u, rfl, ru⟩ := vals1 rv
  cases ru
  obtain ⟨_, na, va, ra, da⟩ := dk_of I.hok ea
  obtain ⟨_, nc, vc, rc, dc⟩ := dk_rd I.hok ec
  have k1 : va.length + vc.length ≤ sizeLine := by rw [← ra.length, ← rc.length]; exact sz
  refine call_meetsIn PySem.F.slot_dict_update da.typeIs PySem.F.entry_dict_update (PySem.F.args_dict_update_2 _ _) (meets_dict_update (mixKind X.prog X.w) a c ne nc) ⟨va, vc, da, dc, k1, fun h' dm _ sb => ?_⟩
  have at_ : ∃ ob, h'.get? a = some ob := by
    obtain ⟨ob, _, _, g, _⟩ := dm
    exact ⟨ob, g⟩
  have ok : (mergeK kvs more).length ≤ sizeLine := Nat.le_trans (length_mergeK more kvs) sz
  have new : ObjOk X.prog X.w (upd H a (.dK (mergeK kvs more))) h' a (.dK (mergeK kvs more)) := dk_new ok na (rc.merge ra) dm
  exact ⟨.non, _, d_write (t' := s.toks) I (by rw [ea]; exact True.intro) sb at_ new, rfl, q⟩
/-- d != {}, d == {}: c is an empty dict -/
def rNeD0 : R2 := fun x y H Q => ∃ (a c : Addr) (kvs : List (Key × V)), x = .ref a ∧ y = .ref c ∧ H a = some (.dK kvs) ∧ H c = some (.dK []) ∧ Q (.bl (!kvs.isEmpty)) H
theorem op_neD0 {X : Cx} (hu : X.A.units < cLine) : OpR X (compareOp .NotEq) rNeD0 := by
  intro pins s σ H x y v u Q I rx ry h
  obtain ⟨a, c, kvs, rfl, rfl, ea, ec, q⟩ := h
  cases rx
  cases ry
  obtain ⟨_, na, va, ra, da⟩ := dk_of I.hok ea
  obtain ⟨_, nc, vc, rc, dc⟩ := dk_of I.hok ec
  have l0 : vc.length = 0 := rc.length.symm
  have la : kvs.length = va.length := ra.length
  refine PySem.W.keq_ne (knd := mixKind X.prog X.w) (r := true) na nc da dc hu (fun e => ?_) ?_
  · have : va = [] := List.length_eq_zero_iff.mp (e.trans l0)
    subst this
    exact .nil
  · refine ⟨.bl (!kvs.isEmpty), H, I, ?_, q⟩
    rw [Bool.and_true, l0]
    show _ = _
    cases kvs with
    | nil =>
      rw [show va.length = 0 from la.symm]
      rfl
    | cons p r =>
      rw [← la]
      rfl
abbrev cListD : List V → Hp → VK → Prop := fun xs H Q => ∃ (a : Addr) (kvs : List (Key × V)), xs = [.ref a] ∧ Rd H a (.dK kvs) ∧ ∀ p, H p = none → Q (.ref p) (upd H p (.lst (kvs.map fun kv => kV kv.1)))
abbrev cDictD : List V → Hp → VK → Prop := fun xs H Q => ∃ (a : Addr) (kvs : List (Key × V)), xs = [.ref a] ∧ Rd H a (.dK kvs) ∧ ∀ p, H p = none → Q (.ref p) (upd H p (.dK kvs))
abbrev cDictP (K : PySem.W.Frag) : List V → Hp → VK → Prop := fun xs H Q => ∃ (a : Addr) (ps : List Addr) (kvs : List (Key × V)), xs = [.ref a] ∧ SqL K H a (ps.map V.ref) ∧ Paired (fun p kv => SqT K H p [kV kv.1, kv.2]) ps kvs ∧ ∀ p, H p = none → Q (.ref p) (upd H p (.dK (mergeK [] kvs)))
section
variable {σ : L2.St} {H : Hp} {Q : VK} {D : Ends} {td ty tx tv : TE} {ts : TS} {te : TE} {trs : List (TE × TE)}
theorem z_dget (q : td σ H fun x H1 => ty σ H1 fun y H2 => ∃ a v, x = .ref a ∧ DGet H2 a y (some v) ∧ Q v H2) : tDGet td ty σ H Q := q
theorem z_dget1 (q : td σ H fun x H1 => ∃ a, x = .ref a ∧ IsD H1 a ∧ ty σ H1 fun y H2 => ∃ o, DGet H2 a y o ∧ Q (o.getD .non) H2) : tDGet1 td ty σ H Q := q
theorem z_dget2 (q : td σ H fun x H1 => ∃ a, x = .ref a ∧ IsD H1 a ∧ ty σ H1 fun y H2 => tx σ H2 fun z H3 => ∃ o, DGet H3 a y o ∧ Q (o.getD z) H3) : tDGet2 td ty tx σ H Q := q
theorem z_din (q : ty σ H fun y H1 => td σ H1 fun x H2 => ∃ a o, x = .ref a ∧ DGet H2 a y o ∧ Q (.bl o.isSome) H2) : tDIn ty td σ H Q := q
theorem z_dnotin (q : ty σ H fun y H1 => td σ H1 fun x H2 => ∃ a o, x = .ref a ∧ DGet H2 a y o ∧ Q (.bl (!o.isSome)) H2) : tDNotIn ty td σ H Q := q
theorem z_dput (q : tv σ H fun v H1 => td σ H1 fun x H2 => ty σ H2 fun y H3 => ∃ a H4, x = .ref a ∧ DPut H3 a y v H4 ∧ D.nx σ H4) : sDPut td ty tv D σ H := q
theorem z_dpop1 (q : td σ H fun x H1 => ∃ a, x = .ref a ∧ IsD H1 a ∧ ty σ H1 fun y H2 => ∃ kvs k v, H2 a = some (.dK kvs) ∧ y = kV k ∧ valV kvs k = some v ∧ Q v (upd H2 a (.dK (dropK kvs k)))) : tDPop1 td ty σ H Q := q
theorem z_disp (q : ∀ p, H p = none → tPairs trs σ (upd H p (.dK [])) fun ps H2 => H2 p = some (.dK []) ∧ ∃ kvs : List (Key × V), ps = kvs.map (fun kv => (kV kv.1, kv.2)) ∧ kvs.length ≤ 15 ∧ Q (.ref p) (upd H2 p (.dK (mergeK [] kvs)))) : tDisp trs σ H Q := q
theorem z_pairs0 {R : List (V × V) → Hp → Prop} (q : R [] H) : tPairs [] σ H R := q
theorem z_pairs {R : List (V × V) → Hp → Prop} {tk tw : TE} (q : tk σ H fun x H1 => tw σ H1 fun y H2 => tPairs trs σ H2 fun ps H3 => R ((x, y) :: ps) H3) : tPairs ((tk, tw) :: trs) σ H R := q
theorem z_lock {d : Addr} {u : HO} (h : H d = some u) (mu : Mut (some u)) (q : ∀ od, ts ⟨fun σ' H' => H' d = some (.frz od u) ∧ D.nx σ' (upd H' d u), fun v H' => H' d = some (.frz od u) ∧ D.rt v (upd H' d u), fun σ' H' => H' d = some (.frz od u) ∧ D.bk σ' (upd H' d u), fun σ' H' => H' d = some (.frz od u) ∧ D.ct σ' (upd H' d u)⟩ σ (upd H d (.frz od u))) : tLock ts D σ H := ⟨d, u, h, mu, q⟩
theorem z_lockE {d : Addr} {u : HO} (h : H d = some u) (mu : Mut (some u)) (q : ∀ od, te σ (upd H d (.frz od u)) fun v H' => H' d = some (.frz od u) ∧ Q v (upd H' d u)) : tLockE te σ H Q := ⟨d, u, h, mu, q⟩
end
end Z

set_option Elab.async false
set_option linter.all false
set_option maxRecDepth 100000
set_option maxHeartbeats 4000000
/-! Zt: texts with signs that texts may have; joins of single signs; lists of texts as data. -/
namespace Z
open PySem PySem.Spec PyProof.Rows L2
open Evl (Ex ex_l ex_t ex_rd sq_of st_of fresh_back RetL RetV)
/-- signs that a text may have -/
def okS (l : List Nat) : Prop := ∀ c ∈ l, c < 1114112
/-! ### texts with signs that texts may have -/
def okT (z : Str) (n : Nat) : Prop := z.length ≤ n ∧ okS z.cps.toList
theorem okT.mono {z : Str} {m n : Nat} (h : okT z m) (e : m ≤ n) : okT z n := ⟨Nat.le_trans h.1 e, h.2⟩
theorem okS_of (s : String) : okS (Str.ofString s).cps.toList := by
  rw [Str.ofString_eq_toList]
  intro c hc
  have hc' : c ∈ s.toList.map Char.toNat := by simpa using hc
  obtain ⟨ch, _, rfl⟩ := List.mem_map.mp hc'
  have := ch.valid
  show ch.val.toNat < 1114112
  rcases this with h | ⟨_, h⟩
  · exact Nat.lt_trans h (by decide)
  · exact h
theorem okT.of (s : String) {n : Nat} (h : (Str.ofString s).length ≤ n) : okT (Str.ofString s) n := ⟨h, okS_of s⟩
theorem tl_app (a b : Str) : (a ++ b).cps.toList = a.cps.toList ++ b.cps.toList := by
  show (a.cps ++ b.cps).toList = _
  simp
theorem okT.app {a b : Str} {m n : Nat} (h : okT a m) (k : okT b n) : okT (a ++ b) (m + n) := by
  refine ⟨by rw [txt_app_len]; exact Nat.add_le_add h.1 k.1, fun c hc => ?_⟩
  rw [tl_app] at hc
  exact (List.mem_append.mp hc).elim (h.2 c) (k.2 c)
theorem okT.cut {a : Str} {m : Nat} (lo hi : Option Int) (h : okT a m) : okT (cutS a lo hi) m := by
  refine ⟨Nat.le_trans (cutS_le _ _ _) h.1, ?_⟩
  rw [S_of a, S_cut, S_tl]
  exact fun c hc => h.2 c (List.mem_of_mem_drop (List.mem_of_mem_take hc))
theorem okT.one {a : Str} {m c : Nat} (h : okT a m) (hc : c ∈ a.cps.toList) : okT ⟨#[c]⟩ 1 := by
  refine ⟨Nat.le_refl _, fun d hd => ?_⟩
  have : d = c := by simpa using hd
  rw [this]
  exact h.2 c hc
theorem okT.S {l : List Nat} {n : Nat} (h : l.length ≤ n) (k : okS l) : okT (Z.S l) n := by
  refine ⟨by rw [S_len]; exact h, ?_⟩
  rw [S_tl]
  exact k
theorem okT.sz {z : Str} {n : Nat} (h : okT z n) (hn : n ≤ 1000) : z.length ≤ sizeLine := szl (Nat.le_trans h.1 hn)
theorem okT.ret {z : Str} {n : Nat} {H : Hp} {Q : VK} (h : okT z n) (q : ∀ l : List Nat, l.length ≤ n → okS l → RetV (.str (Z.S l)) H Q) : RetV (.str z) H Q := by
  rw [S_of z]
  exact q _ h.1 h.2
theorem okS_sub {l m : List Nat} (h : okS l) (k : ∀ c ∈ m, c ∈ l) : okS m := fun c hc => h c (k c hc)

theorem one_eq (n : Nat) : (⟨#[n]⟩ : Str) = S [n] := rfl
theorem empty_str : (Str.ofString "" : Str) = S [] := by decide +kernel
theorem given_all (n : Nat) (v : Nat → V) : Evl.given n (fun _ => true) v = (List.range n).map v := by
  unfold Evl.given
  rw [List.filter_eq_self.mpr (fun _ _ => rfl)]
theorem sum_ones : ∀ (n : Nat) (f : Nat → Nat), (∀ i, f i = 1) → ((List.range n).map f).sum = n
  | 0, _, _ => rfl
  | n + 1, f, h => by
    rw [List.range_succ, List.map_append, List.sum_append, sum_ones n f h]
    simp [h]
/-- a text put together of single signs -/
theorem z_join1 {K : PySem.W.Frag} {H : Hp} {Q : VK} {p : Addr} {n : Nat} {f : Nat → Nat} (h : H p = some (.lst ((List.range n).map fun k => V.str ⟨#[f k]⟩))) (hn : n ≤ 1000) (q : Q (.str (S ((List.range n).map f))) H) : rJoin K (.str (Str.ofString "")) [.ref p] H Q := by
  refine ⟨_, p, (List.range n).map (fun k => S [f k]), rfl, rfl, .inl ?_, ?_, ?_⟩
  · rw [List.map_map]
    exact sq_of h
  · rw [List.map_map, List.length_map, List.length_range, show (Str.ofString "" : Str).length = 0 by decide +kernel, sum_ones n ((fun x : Str => x.length) ∘ fun k : Nat => S [f k]) fun i => rfl]
    omega
  · rw [empty_str]
    have e : (List.range n).map (fun k => S [f k]) = ((List.range n).map fun k => [f k]).map S := by rw [List.map_map] <;> rfl
    have g : ∀ l : List Nat, (l.map fun k => [f k]).flatten = l.map f := fun l => by
      induction l with
      | nil => rfl
      | cons a r ih => rw [List.map_cons, List.flatten_cons, ih] <;> rfl
    rw [e, join_S, g]
    exact q
theorem strOk_S {l : List Nat} (h : okS l) : PyData.strOk (S l) = true := by
  unfold PyData.strOk
  rw [← Array.all_toList, S_tl, List.all_eq_true]
  exact fun c hc => decide_eq_true (h c hc)
theorem strOk_T {z : Str} {n : Nat} (h : okT z n) : PyData.strOk z = true := by
  rw [S_of z]
  exact strOk_S h.2
theorem strs_dp {K : PySem.W.Frag} {H : Hp} : ∀ {zs : List Str}, (∀ z ∈ zs, ∃ n, okT z n) → DpAll K H (zs.map V.str) (zs.map PyData.str) ∧ clAll (zs.map PyData.str) = true ∧ PyData.depthAll (zs.map PyData.str) = 0
  | [], _ => ⟨.nil, rfl, rfl⟩
  | z :: zs, h => by
    obtain ⟨n, hz⟩ := h z List.mem_cons_self
    obtain ⟨a, b, c⟩ := strs_dp (K := K) (H := H) fun u hu => h u (List.mem_cons_of_mem _ hu)
    refine ⟨.cons (.str z) a, ?_, ?_⟩
    · show (PyData.strOk z && clAll (zs.map PyData.str)) = true
      rw [strOk_T hz, b] <;> rfl
    · show max 0 (PyData.depthAll (zs.map PyData.str)) = 0
      rw [c] <;> rfl
end Z

set_option Elab.async false
set_option linter.all false
set_option maxRecDepth 100000
set_option maxHeartbeats 4000000
/-! Zk: written dicts with text keys, whose values are plain or tuples of plain things; a head's facts with such tables. -/
namespace Z
open PySem PySem.Spec PyProof.Rows L2 He
inductive TV where
  | v (x : V)
  | tup (xs : List V)
def tupAt (K : PySem.W.Frag) (b : Addr) (vs : List V) : Bool := match K.lookup b with
  | some ⟨.type c, _, .seq its _, _⟩ => decide (c = "tuple") && (decide (its.size ≤ sizeLine) && relAll vs its.toList)
  | _ => false
theorem tupAt_ok {K : PySem.W.Frag} {b : Addr} {vs : List V} (h : tupAt K b vs = true) (H : Hp) : SqT K H b vs := by
  unfold tupAt at h
  cases q : K.lookup b with
  | none =>
    rw [q] at h
    cases h
  | some o =>
    obtain ⟨oc, od, dt, osl⟩ := o
    rw [q] at h
    cases oc with
    | type c =>
      cases dt with
      | seq its n =>
        have h0 : (decide (c = "tuple") && (decide (its.size ≤ sizeLine) && relAll vs its.toList)) = true := h
        obtain ⟨h1, h2⟩ := ba h0
        obtain ⟨h3, h4⟩ := ba h2
        exact .inr ⟨_, its, n, q, congrArg Value.type (of_decide_eq_true h1), rfl, of_decide_eq_true h3, relAll_ok h4⟩
      | _ => cases h
    | _ => cases dt <;> cases h
def tvB (K : PySem.W.Frag) : TV → Value → Bool
  | .v x, u => relB x u
  | .tup xs, .ref b => tupAt K b xs
  | .tup _, _ => false
def tabB (K : PySem.W.Frag) (a : Addr) (kvs : List (Str × TV)) : Bool := kvs.all fun p => match PySem.W.nsIn K a p.1 with
  | some (some u) => tvB K p.2 u
  | _ => false
def TvAt (K : PySem.W.Frag) (w : World) (a : Addr) (z : Str) : TV → Prop
  | .v x => KDct K w a z x
  | .tup xs => ∃ b, KDct K w a z (.ref b) ∧ ∀ H, SqT K H b xs
structure TabK (K : PySem.W.Frag) (w : World) (a : Addr) (kvs : List (Str × TV)) : Prop where
  d : ∃ es n, KDict K w a es n
  get : ∀ z t, (z, t) ∈ kvs → TvAt K w a z t
theorem tab_mk {K : PySem.W.Frag} {w : World} {a : Addr} {kvs : List (Str × TV)} (d : ∃ es n, KDict K w a es n) (h : tabB K a kvs = true) : TabK K w a kvs := by
  refine ⟨d, fun z t hm => ?_⟩
  obtain ⟨es, n, D⟩ := d
  have h1 := List.all_eq_true.mp h (z, t) hm
  cases e : PySem.W.nsIn K a z with
  | none =>
    rw [show PySem.W.nsIn K a (z, t).1 = none from e] at h1
    cases h1
  | some r =>
    rw [show PySem.W.nsIn K a (z, t).1 = some r from e] at h1
    cases r with
    | none => cases h1
    | some u =>
      have h2 : tvB K t u = true := h1
      cases t with
      | v x => exact ⟨es, n, u, D.at_, D.lit, e, relB_ok h2⟩
      | tup xs =>
        cases u with
        | ref b => exact ⟨b, ⟨es, n, .ref b, D.at_, D.lit, e, rfl⟩, tupAt_ok h2⟩
        | _ => cases h2
abbrev AlK : Type := (AlD × Bool) × List (Option (List (Option (Str × Int))))
def lookK (fa : List Fa) (fn : List DefD) (ex : PySem.W.Frag → Bool) (ts : List (Str × List Str)) (n : Nat) (g : Addr → Option Obj) : AlK :=
  (lookZ fa fn ex n g, ts.map fun t => dicW (frG g (asD g n)) (ga (frG g (asD g n)) t.1))
def hookK (fa : List Fa) (fn : List DefD) (ex : PySem.W.Frag → Bool) (ts : List (Str × List Str)) (n : Nat) : PySem.W.Hook where
  α := AlK
  obs := fun st => lookK fa fn ex ts n st.heap.get?
  val := fun w => ((valD fn, true), ts.map fun t => some (keysIn w.params t.2))
  says := fun w hp => ∃ F : PySem.W.Frag, F.In hp ∧ SaysD fa fn F ∧ ex F = true ∧ (ts.map fun t => dicW F (ga F t.1)) = ts.map fun t => some (keysIn w.params t.2)
  of := fun w s eq => by
    have e : lookK fa fn ex ts n s.heap.get? = ((valD fn, true), ts.map fun t => some (keysIn w.params t.2)) := eq
    exact ⟨_, frG_in, congrArg (fun z : AlK => z.1.1) e, congrArg (fun z : AlK => z.1.2) e, congrArg (fun z : AlK => z.2) e⟩
  keeps := fun _ _ _ ⟨F, hF, cF, xF, tF⟩ kp => ⟨F, PySem.W.Frag.In.keeps hF kp, cF, xF, tF⟩
theorem lookK_eq {fa : List Fa} {fn : List DefD} {ex : PySem.W.Frag → Bool} {ts : List (Str × List Str)} {n : Nat} {g : Addr → Option Obj} {st : Shared} (hg : ∀ a, g a = st.heap.get? a) : lookK fa fn ex ts n g = (hookK fa fn ex ts n).obs st := by
  have e : g = st.heap.get? := funext hg
  subst e
  rfl
theorem tabs_at {w : World} {F : PySem.W.Frag} {ts : List (Str × List Str)} (h : (ts.map fun t => dicW F (ga F t.1)) = ts.map fun t => some (keysIn w.params t.2)) (i : Nat) {t : Str × List Str} (e : ts[i]? = some t) : ∃ es n, KDict F w (ga F t.1) es n := by
  have e2 : (ts.map fun t => dicW F (ga F t.1))[i]? = (ts.map fun t => some (keysIn w.params t.2))[i]? := by rw [h]
  rw [List.getElem?_map, List.getElem?_map, e] at e2
  exact dicW_ok (Option.some.inj e2)
section
variable {K : PySem.W.Frag} {w : World} {H : Hp} {Q : VK} {a : Addr} {z : Str} {v : V}
theorem z_ixK (h : KDct K w a z v) (q : Q v H) : rIxD K w (.ref a) (.str z) H Q := ⟨a, z, v, rfl, rfl, h, q⟩
end
end Z

set_option Elab.async false
set_option linter.all false
set_option maxRecDepth 100000
set_option maxHeartbeats 4000000
/-! Zq: what stays but at some places; comprehensions over enumerate, and by one's own invariant; dicts by written keys. -/
namespace Z
open PySem PySem.Spec PyProof.Rows L2
open Evl (Ex ex_l ex_t ex_rd sq_of st_of fresh_back RetL RetV)
/-- all but what may be written stays -/
def But (B : List Addr) (H H' : Hp) : Prop := ∀ b o, b ∉ B → H b = some o → H' b = some o
section
variable {B C : List Addr} {H H' H2 : Hp} {p : Addr} {o : HO}
theorem But.refl : But B H H := fun _ _ _ h => h
theorem But.ex (e : Ex H H') : But B H H' := fun b o _ h => e b o h
theorem But.trans (a : But B H H') (b : But B H' H2) : But B H H2 := fun c o hc h => b c o hc (a c o hc h)
theorem But.mono (a : But B H H') (s : ∀ b ∈ B, b ∈ C) : But C H H' := fun c o hc h => a c o (fun z => hc (s c z)) h
theorem But.put (h : p ∈ B) : But B H (upd H p o) := fun b u hb e => by
  rw [upd_ne fun z => hb (by rw [z]; exact h)]
  exact e
theorem But.put' (a : But B H H') (h : p ∈ B) : But B H (upd H' p o) := a.trans (But.put h)
theorem But.mut (a : But B H H') (h : H p = none) : But B H (upd H' p o) := fun b u hb e => by
  rw [upd_ne (ne_of_none e h)]
  exact a b u hb e
theorem But.exOf (a : But B H H') (h : ∀ b ∈ B, H b = none) : Ex H H' := fun b u e => a b u (fun z => by
  rw [h b z] at e
  cases e) e
/-- an address that is new later was new ahead, but for the places -/
theorem But.fresh (a : But B H H') (h : H' p = none) (hp : p ∉ B) : H p = none := by
  cases e : H p with
  | none => rfl
  | some u =>
    have := a p u hp e
    rw [h] at this
    cases this
end
/-! ### comprehensions over enumerate -/
def CE (K : PySem.W.Frag) (g : TG) (tt : TT) (te : TE) (vs : List Nat) (σ : L2.St) (xs : List V) (H1 : Hp) (Q : VK) : Prop := ∃ a ys, xs = [.ref a] ∧ SqL K H1 a ys ∧ CW (Ite K a) g tt te vs σ H1 Q
section
variable {K : PySem.W.Frag} {σ : L2.St} {H : Hp} {Q : VK} {g : TG} {tt : TT} {te tl : TE} {ta : TA} {vs : List Nat} {a : Addr} {xs : List V} {n j m : Nat}
theorem z_ce (q : ta σ H fun x H1 => CE K g tt te vs σ x H1 Q) : tLc (iEnum K ta) g tt te vs σ H Q := q
theorem z_CE (hx : SqL K H a xs) (hz : xs.length ≤ 40000) (f : Nat → Bool) (v : Nat → V) (hw : ∀ x y, wipe (((wipe σ vs).set m (some x)).set j (some y)) vs = wipe σ vs)
    (ht : ∀ i x H', i < xs.length → xs[i]? = some x → Ex H H' → Evl.EvT tt (((wipe σ vs).set m (some (.int (i : Nat)))).set j (some x)) H' (f i)) (he : ∀ i x H', i < xs.length → xs[i]? = some x → Ex H H' → f i = true → Evl.Ev te (((wipe σ vs).set m (some (.int (i : Nat)))).set j (some x)) H' (v i))
    (q : ∀ p H2, H p = none → Ex H H2 → H2 p = some (.lst (Evl.given xs.length f v)) → Q (.ref p) H2) : CE K (gTup K 2 (gCons (gName m) (gCons (gName j) gNil))) tt te vs σ [.ref a] H Q :=
  ⟨a, xs, rfl, hx, fun Dl hD => lc_it walk_enum (Evl.Cw H f v Dl) ⟨hD, Ex.new hD, upd_same⟩ (fun _ _ _ p => ex_l p.2.1 hx) (fun i x H1 H2 hi p y => by
    obtain ⟨T, u, x', rfl, e1, rfl, e3, e4⟩ := y
    cases e3
    refine z_gtup2 (st_of upd_same) ⟨hw _ _, ?_⟩
    have p2 : Evl.Cw H f v Dl i (upd H1 T (.tup [.int (i : Nat), x'])) := ⟨p.1, p.2.1.trans (Ex.new e1), Ex.new e1 _ _ p.2.2⟩
    exact Evl.cw_turn p2 (by omega) (ht i x' H hi e4 (Ex.refl H)) fun hf => he i x' H hi e4 (Ex.refl H) hf) (fun H' p => q Dl H' p.1 p.2.1 p.2.2)⟩
/-- one's own invariant: over a range, a list, enumerate -/
theorem z_CR1w {m : Int} (hn : 0 ≤ m ∧ m ≤ 40000) (Pv : Addr → Nat → Hp → Prop) (h0 : ∀ D, H D = none → Pv D 0 (upd H D (.lst []))) (hw : ∀ x, wipe ((wipe σ vs).set j (some x)) vs = wipe σ vs)
    (hs : ∀ D (i : Nat) H1, H D = none → i < m.toNat → Pv D i H1 → te ((wipe σ vs).set j (some (.int (i : Int)))) H1 fun y H2 => ∃ acc, H2 D = some (.lst acc) ∧ acc.length < sizeLine ∧ Pv D (i + 1) (upd H2 D (.lst (acc ++ [y]))))
    (q : ∀ D H2, H D = none → Pv D m.toNat H2 → Q (.ref D) H2) : CR1 (gName j) tYes te vs σ [.int m] H Q :=
  ⟨m, rfl, by omega, by omega, fun D hD => lc_it walk_range (Pv D) (h0 D hD) (fun _ _ _ _ => trivial) (fun i x H1 H2 hi p y => by
    obtain ⟨rfl, rfl⟩ := y
    refine ⟨hw _, ?_⟩
    show te ((wipe σ vs).set j (some (.int (0 + (i : Int))))) H2 _
    rw [Int.zero_add]
    exact hs D i H2 hD hi p) (fun H' p => q D H' hD p)⟩
theorem z_CLw (hx : SqL K H a xs) (Pv : Addr → Nat → Hp → Prop) (h0 : ∀ D, H D = none → Pv D 0 (upd H D (.lst []))) (hG : ∀ D i H1, H D = none → Pv D i H1 → SqL K H1 a xs) (hw : ∀ x, wipe ((wipe σ vs).set j (some x)) vs = wipe σ vs)
    (hs : ∀ D i x H1, H D = none → i < xs.length → xs[i]? = some x → Pv D i H1 → te ((wipe σ vs).set j (some x)) H1 fun y H2 => ∃ acc, H2 D = some (.lst acc) ∧ acc.length < sizeLine ∧ Pv D (i + 1) (upd H2 D (.lst (acc ++ [y]))))
    (q : ∀ D H2, H D = none → Pv D xs.length H2 → Q (.ref D) H2) : CL K (gName j) tYes te vs σ (.ref a) H Q :=
  ⟨a, rfl, ⟨xs, hx⟩, fun D hD => lc_it walk_list (Pv D) (h0 D hD) (fun i H1 _ p => hG D i H1 hD p) (fun i x H1 H2 hi p y => by
    obtain ⟨rfl, e⟩ := y
    exact ⟨hw _, hs D i x H2 hD hi e p⟩) (fun H' p => q D H' hD p)⟩
theorem z_CEw (hx : SqL K H a xs) (Pv : Addr → Nat → Hp → Prop) (h0 : ∀ D, H D = none → Pv D 0 (upd H D (.lst []))) (hG : ∀ D i H1, H D = none → Pv D i H1 → SqL K H1 a xs) (hw : ∀ x y, wipe (((wipe σ vs).set m (some x)).set j (some y)) vs = wipe σ vs)
    (hs : ∀ D i x H1 H2, H D = none → i < xs.length → xs[i]? = some x → Pv D i H1 → Ex H1 H2 → te (((wipe σ vs).set m (some (.int (i : Nat)))).set j (some x)) H2 fun y H3 => ∃ acc, H3 D = some (.lst acc) ∧ acc.length < sizeLine ∧ Pv D (i + 1) (upd H3 D (.lst (acc ++ [y]))))
    (q : ∀ D H2, H D = none → Pv D xs.length H2 → Q (.ref D) H2) : CE K (gTup K 2 (gCons (gName m) (gCons (gName j) gNil))) tYes te vs σ [.ref a] H Q :=
  ⟨a, xs, rfl, hx, fun D hD => lc_it walk_enum (Pv D) (h0 D hD) (fun i H1 _ p => hG D i H1 hD p) (fun i x H1 H2 hi p y => by
    obtain ⟨T, u, x', rfl, e1, rfl, e3, e4⟩ := y
    cases e3
    refine z_gtup2 (st_of upd_same) ⟨hw _ _, ?_⟩
    exact hs D i x' H1 _ hD hi e4 p (Ex.new e1)) (fun H' p => q D H' hD p)⟩
end
/-! ### dicts with a few written keys -/
section
variable {K : PySem.W.Frag} {σ : L2.St} {H : Hp} {Q : VK} {a : Addr} {kvs : List (Key × V)} {x : Str} {v y : V}
theorem z_dgetK (hd : H a = some (.dK kvs)) (e : valV kvs (Sum.inr x) = some v) (q : Q v H) : ∃ a' v', V.ref a = .ref a' ∧ DGet H a' (.str x) (some v') ∧ Q v' H := by
  refine ⟨a, v, rfl, ?_, q⟩
  rw [← e]
  exact DGet.k (k := Sum.inr x) hd
theorem dgK (hd : H a = some (.dK kvs)) (e : valV kvs (Sum.inr x) = some v) : DGet H a (.str x) (some v) := by
  rw [← e]
  exact DGet.k (k := Sum.inr x) hd
theorem dgI {i : Int} (hd : H a = some (.dK kvs)) (e : valV kvs (Sum.inl i) = some v) : DGet H a (.int i) (some v) := by
  rw [← e]
  exact DGet.k (k := Sum.inl i) hd
theorem z_dgetI {i : Int} (hd : H a = some (.dK kvs)) (e : valV kvs (Sum.inl i) = some v) (q : Q v H) : ∃ a' v', V.ref a = .ref a' ∧ DGet H a' (.int i) (some v') ∧ Q v' H := by
  refine ⟨a, v, rfl, ?_, q⟩
  rw [← e]
  exact DGet.k (k := Sum.inl i) hd
end
theorem valV_str {kvs : List (Key × V)} {x : Str} {v : V} (h : kvs.find? (fun kv => decide (kv.1 = Sum.inr x)) = some (Sum.inr x, v)) : valV kvs (Sum.inr x) = some v := by
  unfold valV
  rw [h] <;> rfl
end Z

set_option Elab.async false
set_option linter.all false
set_option maxRecDepth 100000
set_option maxHeartbeats 4000000
/-! Zw: enumerate of a tuple; zip of a list or a tuple beside another one. b tells a tuple. -/
namespace ZW
open PySem PySem.Spec PyProof.Rows L2
open PySem.AutoSeq1 (wpAny_loadPart')
def SIt : Bool → Heap → Addr → Addr → Nat → Prop
  | false, h, it, l, i => h.IsListIter it l i
  | true, h, it, l, i => h.IsTupleIter it l i
def SOf : Bool → Heap → Addr → Array Value → Prop
  | false, h, l, xs => h.IsList l xs
  | true, h, l, xs => h.IsTuple l xs
theorem SIt.keep {b : Bool} {h h' : Heap} {it l : Addr} {i : Nat} (k : ∀ o, h.get? it = some o → h'.get? it = some o) (x : SIt b h it l i) : SIt b h' it l i := by
  cases b with
  | false =>
    obtain ⟨o, g, r⟩ := (x : h.IsListIter it l i)
    exact ⟨o, k o g, r⟩
  | true =>
    obtain ⟨o, g, r⟩ := (x : h.IsTupleIter it l i)
    exact ⟨o, k o g, r⟩
theorem SOf.keep {b : Bool} {h h' : Heap} {l : Addr} {xs : Array Value} (k : ∀ o, h.get? l = some o → h'.get? l = some o) (x : SOf b h l xs) : SOf b h' l xs := by
  cases b with
  | false =>
    obtain ⟨o, g, r⟩ := (x : h.IsList l xs)
    exact ⟨o, k o g, r⟩
  | true =>
    obtain ⟨o, g, r⟩ := (x : h.IsTuple l xs)
    exact ⟨o, k o g, r⟩
theorem SIt.obj {b : Bool} {h : Heap} {it l : Addr} {i : Nat} (x : SIt b h it l i) : ∃ o, h.get? it = some o ∧ ∀ v, o.data ≠ .cell v := by
  cases b with
  | false =>
    obtain ⟨o, g, _, d⟩ := (x : h.IsListIter it l i)
    exact ⟨o, g, fun v z => by rw [d] at z; cases z⟩
  | true =>
    obtain ⟨o, g, _, d⟩ := (x : h.IsTupleIter it l i)
    exact ⟨o, g, fun v z => by rw [d] at z; cases z⟩
theorem SIt.lt {b : Bool} {h : Heap} {it l : Addr} {i : Nat} (x : SIt b h it l i) : it < h.objs.size := by
  obtain ⟨o, g, _⟩ := x.obj
  exact Heap.lt_size g
theorem SIt.but {b : Bool} {h h' : Heap} {it l c : Addr} {i : Nat} (k : Heap.SameBut c h h') (n : it ≠ c) (x : SIt b h it l i) : SIt b h' it l i := x.keep fun o g => (k.2 it n).trans g
theorem SOf.but {b : Bool} {h h' : Heap} {l c : Addr} {xs : Array Value} (k : Heap.SameBut c h h') (n : l ≠ c) (x : SOf b h l xs) : SOf b h' l xs := x.keep fun o g => (k.2 l n).trans g
section
variable {prog : Program} {w : World} {A : Around} {E : Value → Shared → Prop} {s : Shared}
theorem s_item {b : Bool} {it l : Addr} {i : Nat} {xs : Array Value} {x : Value} {Q : Value → Shared → Prop} (si : SIt b s.heap it l i) (so : SOf b s.heap l xs) (ex : xs[i]? = some x)
    (q : ∀ h', SIt b h' it l (i + 1) → Heap.SameBut it s.heap h' → Q x { s with heap := h' }) : wpAny (model prog w) A (Builtin.SmallTypes.nextOf (.ref it)) Q E s := by
  cases b with
  | false => exact wpAny_nextOf_list_item si so ex q
  | true => exact RZ.nextOf_tuple_item si so ex q
theorem s_end {b : Bool} {it l : Addr} {i : Nat} {xs : Array Value} {Q : Value → Shared → Prop} (hh : A.handled = none) (si : SIt b s.heap it l i) (so : SOf b s.heap l xs) (ex : xs[i]? = none)
    (q : ∀ h' e, Heap.ExtBut it s.heap h' → (∃ o, h'.get? e = some o ∧ o.cls = .type "StopIteration") → E (.ref e) { s with heap := h' }) : wpAny (model prog w) A (Builtin.SmallTypes.nextOf (.ref it)) Q E s := by
  cases b with
  | false => exact wpAny_nextOf_list_end hh si so ex q
  | true => exact RZ.nextOf_tuple_end hh si so ex q
/-- a turn of enumerate, whatever stands within -/
theorem en_item {b : Bool} {e it l : Addr} {i : Nat} {xs : Array Value} {x was : Value} {Q : Option Value → Shared → Prop} (ee : IsEnum s.heap e it i was) (si : SIt b s.heap it l i) (so : SOf b s.heap l xs) (ex : xs[i]? = some x) (ne : e ≠ it)
    (q : ∀ h', IsEnumOut h' e it ((i : Int) + 1) x s.heap.objs.size → SIt b h' it l (i + 1) → h'.get? s.heap.objs.size = some (seqObj "tuple" #[.int i s.toks, x] 0) → (∀ c o, c ≠ e → c ≠ it → s.heap.get? c = some o → h'.get? c = some o) → Q (some (.ref s.heap.objs.size)) { s with heap := h', toks := s.toks + 1 }) :
    wpAny (model prog w) A (pyNext (.ref e)) Q E s := by
  have ty : s.TypeIs (.ref e) "enumerate" := ⟨_, ee, rfl⟩
  have el := Heap.lt_size ee
  unfold pyNext
  refine wpAny_bind (wpAny_attempt (wpAny_callSpecial?_slot (name := Str.ofString "__next__") ty F.slot_enumerate_next (wpAny_call_entry F.slot_enumerate_next ty F.entry_enumerate_next ?_ (F.args_enumerate_next_1 _))))
  obtain ⟨h, g, d, tk, os⟩ := s
  show wpAny _ _ (field (.ref e) 2 >>= _) _ _ _
  refine wpAny_bind (wpAny_field ee rfl (x := .ref it) rfl (wpAny_bind (s_item si so ex fun h1 si1 c1 => ?_)))
  have e1 : IsEnum h1 e it i was := (c1.2 e ne).trans ee
  show wpAny _ _ (field (.ref e) 3 >>= _) _ _ _
  refine wpAny_bind (wpAny_field e1 rfl (x := rawInt i) rfl ?_)
  show wpAny _ _ (field (.ref e) 4 >>= _) _ _ _
  refine wpAny_bind (wpAny_field e1 rfl (x := .none) rfl ?_)
  show wpAny _ _ (mkInt i >>= _) _ _ _
  refine wpAny_bind (wpAny_mkInt ?_)
  show wpAny _ _ (setField (.ref e) 3 (rawInt ((i : Int) + 1)) >>= _) _ _ _
  refine wpAny_bind (wpAny_setField_rec e1 (by simp) fun h2 e2 c2 => ?_)
  have e2' : IsEnum h2 e it ((i : Int) + 1) was := e2
  show wpAny _ _ (setField (.ref e) 4 .none >>= _) _ _ _
  refine wpAny_bind (wpAny_setField_rec e2' (by simp) fun h3 e3 c3 => ?_)
  have e3' : IsEnum h3 e it ((i : Int) + 1) was := e3
  have sz3 : h3.objs.size = h.objs.size := c3.1.trans (c2.1.trans c1.1)
  show wpAny _ _ (newTuple [.int i tk, x] >>= _) _ _ _
  refine wpAny_bind (wpAny_newTuple ?_)
  have e4 : IsEnum (h3.push (seqObj "tuple" #[.int i tk, x] 0)) e it ((i : Int) + 1) was := Heap.get?_push_of_some _ e3'
  have t4 : (h3.push (seqObj "tuple" #[.int i tk, x] 0)).get? h.objs.size = some (seqObj "tuple" #[.int i tk, x] 0) := by
    rw [← sz3]
    exact Heap.get?_push_size _ rfl
  have o4 : ∀ c o, c ≠ e → c ≠ it → h.get? c = some o → (h3.push (seqObj "tuple" #[.int i tk, x] 0)).get? c = some o := fun c o n1 n2 gc => Heap.get?_push_of_some _ ((c3.2 c n1).trans ((c2.2 c n1).trans ((c1.2 c n2).trans gc)))
  have si4 : SIt b (h3.push (seqObj "tuple" #[.int i tk, x] 0)) it l (i + 1) := ((si1.but c2 ne.symm).but c3 ne.symm).keep fun o gc => Heap.get?_push_of_some _ gc
  show wpAny _ _ (Builtin.SmallTypes.ownedTupleIsFree (.ref e) >>= _) _ _ { heap := h3.push (seqObj "tuple" #[.int i tk, x] 0), gens := g, drawn := d, toks := tk + 1, os := os }
  rw [sz3]
  generalize h3.push (seqObj "tuple" #[.int i tk, x] 0) = h4 at e4 t4 o4 si4 ⊢
  clear e3 e3' c3 e2 e2' c2 e1 c1 si1 sz3 h3 h2 h1
  refine wpAny_bind ?_
  unfold Builtin.SmallTypes.ownedTupleIsFree
  refine wpAny_bind (wpAny_field e4 rfl (x := .none) rfl (wpAny_pure ?_))
  simp only [if_true]
  refine wpAny_bind (wpAny_rule (wpAny_bind (wpAny_field e4 rfl (x := was) rfl (wpAny_bind (wpAny_setField_rec e4 (by simp) fun h5 e5 c5 => ?_)))))
  have e5' : IsEnum h5 e it ((i : Int) + 1) x := e5
  show wpAny _ _ (Builtin.SmallTypes.ownedTupleHandOut (.ref e) (.ref h.objs.size) >>= _) _ _ _
  refine wpAny_bind ?_
  unfold Builtin.SmallTypes.ownedTupleHandOut
  refine wpAny_bind (wpAny_setField_rec e5' (by simp) fun h6 e6 c6 => ?_)
  have e6' : IsEnumOut h6 e it ((i : Int) + 1) x h.objs.size := e6
  refine wpAny_setField_rec e6' (by simp) fun h7 e7 c7 => wpAny_bind (wpAny_letGo (wpAny_pure ⟨_, rfl, wpAny_pure ?_⟩))
  have up : ∀ c, c ≠ e → h7.get? c = h4.get? c := fun c n => (c7.2 c n).trans ((c6.2 c n).trans (c5.2 c n))
  exact q h7 e7 (si4.keep fun o gc => (up it ne.symm).trans gc) ((up _ (Nat.ne_of_gt el)).trans t4) fun c o n1 n2 gc => (up c n1).trans (o4 c o n1 n2 gc)
theorem en_end {b : Bool} {e it l : Addr} {i : Nat} {xs : Array Value} {was : Value} {Q : Option Value → Shared → Prop} (hh : A.handled = none) (ee : IsEnum s.heap e it i was) (si : SIt b s.heap it l i) (so : SOf b s.heap l xs) (ex : xs[i]? = none)
    (q : ∀ h', Heap.ExtBut it s.heap h' → Q none { s with heap := h' }) : wpAny (model prog w) A (pyNext (.ref e)) Q E s := by
  have ty : s.TypeIs (.ref e) "enumerate" := ⟨_, ee, rfl⟩
  unfold pyNext
  refine wpAny_bind (wpAny_attempt (wpAny_callSpecial?_slot (name := Str.ofString "__next__") ty F.slot_enumerate_next (wpAny_call_entry F.slot_enumerate_next ty F.entry_enumerate_next ?_ (F.args_enumerate_next_1 _))))
  show wpAny _ _ (field (.ref e) 2 >>= _) _ _ _
  refine wpAny_bind (wpAny_field ee rfl (x := .ref it) rfl (wpAny_bind (s_end hh si so ex fun h1 z k1 ⟨oz, gz, cz⟩ => ?_)))
  exact wpAny_bind (wpAny_isInstance (T := "StopIteration") (b := true) ⟨oz, gz, cz⟩ isSubtype_stop (wpAny_pure (q _ k1)))
end
theorem new_enT (l : Addr) (xs : Array Value) (n : Nat) (dc : Option Addr) (sl : Array (Option Value)) :
    Meets (Builtin.«enumerate.__new__» ⟨[.type "enumerate", .ref l], []⟩) (fun _ R s => s.heap.get? l = some { cls := .type "tuple", dict := dc, data := .seq xs n, slots := sl } ∧
      R (.ok (.ret (.ref (s.heap.push { cls := .type "tuple_iterator", data := .fields #[.ref l, .int 0 0] }).objs.size)))
        { s with heap := (s.heap.push { cls := .type "tuple_iterator", data := .fields #[.ref l, .int 0 0] }).push { cls := .type "enumerate", data := .fields #[.none, .bool false, .ref s.heap.objs.size, rawInt 0, .none, .none] } }) :=
  .of_wp fun prog w A R s ⟨gl, hR⟩ => by
    obtain ⟨h, g, d, tk, os⟩ := s
    have sb := sub_enumerate
    have tl : Heap.IsTuple (Shared.heap ⟨h, g, d, tk, os⟩) l xs := ⟨_, gl, rfl, n, rfl⟩
    wp_walk using wpAny_loadPart' gl
    refine wpAny_stack_any fun st => wpAny_pure ?_
    split
    · rename_i c _ _ _ _ _
      cases (c == Value.type "enumerate") <;> (wp_walk using wpAny_loadPart' gl, wpAny_pyIter_tuple tl; exact ⟨_, rfl, hR⟩)
    · wp_walk using wpAny_loadPart' gl, wpAny_pyIter_tuple tl
      exact ⟨_, rfl, hR⟩
section
variable {prog : Program} {w : World} {A : Around} {E : Value → Shared → Prop} {s : Shared}
theorem call_en {b : Bool} {l : Addr} {xs : Array Value} {Q : Value → Shared → Prop} (so : SOf b s.heap l xs)
    (q : ∀ h', IsEnum h' (s.heap.objs.size + 1) s.heap.objs.size 0 .none → SIt b h' s.heap.objs.size l 0 → (∀ c o, s.heap.get? c = some o → h'.get? c = some o) → Q (.ref (s.heap.objs.size + 1)) { s with heap := h' }) :
    wpAny (model prog w) A (call (.type "enumerate") [.ref l]) Q E s := by
  cases b with
  | false => exact call_enumerate_list so fun h' a b _ c => q h' a b c
  | true =>
    obtain ⟨⟨c, dc, dt, sl⟩, gl, hc, n, hd⟩ := (so : s.heap.IsTuple l xs)
    obtain rfl : c = .type "tuple" := hc
    obtain rfl : dt = .seq xs n := hd
    refine callType_new F.called_enumerate (by decide) (F.typeCall_enumerate_1 _) (F.newCall_enumerate_1 _) (fun obj => F.args_object_init_2 obj _) F.entry_enumerate_new (new_enT l xs n dc sl) ⟨gl, ?_⟩
    have z1 : (s.heap.push { cls := .type "tuple_iterator", data := .fields #[.ref l, .int 0 0] }).objs.size = s.heap.objs.size + 1 := Heap.size_push ..
    show _ ∧ _
    rw [z1]
    have ee : IsEnum ((s.heap.push { cls := .type "tuple_iterator", data := .fields #[.ref l, .int 0 0] }).push { cls := .type "enumerate", data := .fields #[.none, .bool false, .ref s.heap.objs.size, rawInt 0, .none, .none] }) (s.heap.objs.size + 1) s.heap.objs.size 0 .none := by
      have z := Heap.get?_push_size (s.heap.push { cls := .type "tuple_iterator", data := .fields #[.ref l, .int 0 0] }) (o := { cls := .type "enumerate", data := .fields #[.none, .bool false, .ref s.heap.objs.size, rawInt 0, .none, .none] }) rfl
      rw [z1] at z
      exact z
    exact ⟨⟨_, ee, rfl⟩, q _ ee ⟨_, Heap.get?_push_of_some _ (Heap.get?_push_size _ rfl), rfl, rfl⟩ fun c o gc => Heap.get?_push_of_some _ (Heap.get?_push_of_some _ gc)⟩
end
/-- a list or a tuple -/
def SqS (b : Bool) (K : PySem.W.Frag) (H : Hp) (a : Addr) (xs : List V) : Prop := match b with
  | false => SqL K H a xs
  | true => SqT K H a xs
section
variable {X : Cx} {pins : List (Addr × Obj)} {σ : L2.St} {H : Hp} {s : Shared} {a : Addr} {xs ys : List V} {b : Bool}
theorem sOf (I : Inv X pins σ H s) (h : SqS b X.K H a xs) : ∃ its : List Value, Vals xs its ∧ SOf b s.heap a its.toArray ∧ xs.length ≤ sizeLine := by
  cases b with
  | false =>
    obtain ⟨its, rv, p, z⟩ := I.list h
    exact ⟨its, rv, p.isList, z⟩
  | true =>
    obtain ⟨its, rv, p, z⟩ := I.tuple h
    exact ⟨its, rv, p, z⟩
theorem sInj (I : Inv X pins σ H s) (h : SqS b X.K H a xs) (k : SqS b X.K H a ys) : xs = ys := by
  cases b with
  | false => exact I.list_inj h k
  | true => exact I.tuple_inj h k
end
def IteS (b : Bool) (K : PySem.W.Frag) (a : Addr) : It :=
  ⟨fun i H => ∃ (xs : List V) (x : V), SqS b K H a xs ∧ xs[i]? = some x, fun i H v H' => ∃ T x, v = .ref T ∧ H T = none ∧ H' = upd H T (.tup [.int (i : Nat), x]) ∧ ∀ xs, SqS b K H a xs → xs[i]? = some x, fun i H => ∃ xs : List V, SqS b K H a xs ∧ xs.length ≤ i⟩
theorem turn_enS {P : Program} {w : World} {K : PySem.W.Frag} {elts : List Expr} {kk : Nat} {tpos : Pos} (b : Bool) (a e it : Addr) :
    Turn P w K (.Tuple elts kk tpos) (IteS b K a) [e, it] e (fun i h => (∃ was, IsEnum h e it ((i : Nat) : Int) was) ∧ SIt b h it a i ∧ e ≠ it) where
  mem := List.mem_cons_self
  obj := fun i h st c hc => by
    obtain ⟨⟨was, ee⟩, si, _⟩ := st
    rcases List.mem_cons.mp hc with z | z
    · rw [z]
      exact ⟨_, ee, fun v q => nomatch q⟩
    · rw [List.mem_singleton.mp z]
      exact si.obj
  keep := fun i h h' st k => by
    obtain ⟨⟨was, ee⟩, si, ne⟩ := st
    exact ⟨⟨was, k e (by simp) _ ee⟩, si.keep fun o g => k it (by simp) o g, ne⟩
  item := by
    intro X hP hw hK _ i pins s σ H E I fp st go
    subst hP hw hK
    obtain ⟨⟨was, ee⟩, si, ne⟩ := st
    obtain ⟨xs, x, hq, hx⟩ := go
    obtain ⟨its, rv, so, _⟩ := sOf I hq
    obtain ⟨u, hu, ru⟩ := rv.get hx
    have le := Heap.lt_size ee
    have li := si.lt
    refine en_item ee si so (x := u) (by simpa using hu) ne fun h1 eo si1 gt kp => ⟨_, rfl, wpAny_letOwnedTupleGo_enum (s := { s with heap := h1, toks := s.toks + 1 }) eo fun h2 e2 c2 => ?_⟩
    have g2 : h2.get? s.heap.objs.size = some (seqObj "tuple" #[.int i s.toks, u] 0) := (c2.2 _ (Nat.ne_of_gt le)).trans gt
    have new : ObjOk X.prog X.w (upd H s.heap.objs.size (.tup [.int (i : Nat), x])) h2 s.heap.objs.size (.tup [.int (i : Nat), x]) :=
      ⟨by show 2 ≤ sizeLine; decide, [.int i s.toks, u], .cons ⟨_, rfl⟩ (.cons ru .nil), ⟨_, g2, rfl, _, rfl⟩⟩
    have I2 : Inv X pins σ (upd H s.heap.objs.size (.tup [.int (i : Nat), x])) { s with heap := h2, toks := s.toks + 1 } :=
      I.turnedNew (ch := [e, it]) (fun c o hc g => (c2.2 c fun z => hc (by simp [z])).trans (kp c o (fun z => hc (by simp [z])) (fun z => hc (by simp [z])) g)) fp (Nat.le_refl _) new
    refine ⟨.ref s.heap.objs.size, _, I2, rfl, ⟨_, x, rfl, I.hok.fresh (Nat.le_refl _), rfl, fun zs hz => by rw [sInj I hz hq]; exact hx⟩, ⟨⟨u, ?_⟩, si1.but c2 ne.symm, ne⟩, fun c hc => ?_⟩
    · rw [show ((i + 1 : Nat) : Int) = (i : Int) + 1 by omega]
      exact e2
    · rw [upd_ne (by rcases List.mem_cons.mp hc with z | z <;> first | (rw [z]; exact Nat.ne_of_lt le) | (rw [List.mem_singleton.mp z]; exact Nat.ne_of_lt li))]
      exact (fp c hc).1
  done := by
    intro X hP hw hK hcalm i pins s σ H E I fp st stop
    subst hP hw hK
    obtain ⟨⟨was, ee⟩, si, ne⟩ := st
    obtain ⟨xs, hq, hx⟩ := stop
    obtain ⟨its, rv, so, _⟩ := sOf I hq
    obtain ⟨f0, f1, f2, f3, f4, f5⟩ := fp it (by simp)
    have hl := rv.length
    exact en_end (I.ok.hd hcalm) ee si so (by simp; omega) fun h1 k1 => ⟨rfl, I.turned (t' := s.toks) (fun c o hc g => k1 c o hc g) f0 f1 f3 f4 f5⟩
  self := fun A i s Q E st q => by
    obtain ⟨⟨_, ee⟩, _⟩ := st
    exact wpAny_pyIter_enum ee q
def iEnS (K : PySem.W.Frag) (ta : TA) : TI := fun σ H R => ta σ H fun vs H1 => ∃ b a xs, vs = [.ref a] ∧ SqS b K H1 a xs ∧ R (IteS b K a) H1
theorem pi_enS {X : Cx} {e : Expr} {ta : TA} {p pos tpos : Pos} {elts : List Expr} {kk : Nat} (hg : Gl X "enumerate") (hm : X.mg "enumerate" = none) (ha : PA X [e] ta) (hs : starEach [e] X.env = [(false, eval e X.env)] := by rfl) :
    PI X (.Tuple elts kk tpos) (.Call (.Name "enumerate" p) [e] [] pos) (iEnS X.K ta) := by
  refine ⟨fun pins s σ H R I h => Call_ (ld_blt I hg hm boot_enumerate (PyProof.Rows.callWith_type1 (thn (ha.run pos pins s σ H _ I h) fun us s1 ⟨vs, H1, I1, r1, q1⟩ => ?_) hs rfl))⟩
  obtain ⟨b, a, xs, rfl, hq, q⟩ := q1
  obtain ⟨u, rfl, ru⟩ := vals1 r1
  cases ru
  obtain ⟨its, rv, so, _⟩ := sOf I1 hq
  refine call_en so fun h1 ee si kp => wpAny_pyIter_enum ee ?_
  have I2 : Inv X pins σ H1 { s1 with heap := h1 } := I1.kept (t' := s1.toks) kp
  refine ⟨s1.heap.objs.size + 1, [s1.heap.objs.size + 1, s1.heap.objs.size], _, _, H1, rfl, I2, turn_enS b a (s1.heap.objs.size + 1) s1.heap.objs.size, ⟨⟨.none, ee⟩, si, Nat.succ_ne_self _⟩, fun c hc => ?_, q⟩
  have le : s1.heap.objs.size ≤ c := by
    rcases List.mem_cons.mp hc with z | z
    · rw [z]
      exact Nat.le_succ _
    · rw [List.mem_singleton.mp z]
      exact Nat.le_refl _
  exact I1.fpOk le (I1.hok.fresh le)
/-! ### zip -/
section
variable {prog : Program} {w : World} {A : Around} {E : Value → Shared → Prop} {s : Shared} {b c : Bool} {z TI TO i1 i2 l1 l2 : Addr} {k1 k2 : Nat} {xs ys : Array Value} {x y u v : Value}
/-- what stays over a turn -/
def Kept (z TO i1 i2 : Addr) (h h' : Heap) : Prop := ∀ d o, d ≠ z → d ≠ TO → d ≠ i1 → d ≠ i2 → h.get? d = some o → h'.get? d = some o
theorem zw_item {Q : Option Value → Shared → Prop} (D : ZipApart z TI TO i1 i2 l1 l2) (zz : IsZip s.heap z TI TO .none) (ti : IsPair s.heap TI (.ref i1) (.ref i2)) (to : IsPair s.heap TO u v) (s1 : SIt b s.heap i1 l1 k1) (s2 : SIt c s.heap i2 l2 k2)
    (o1 : SOf b s.heap l1 xs) (o2 : SOf c s.heap l2 ys) (ex : xs[k1]? = some x) (ey : ys[k2]? = some y)
    (q : ∀ h', IsZip h' z TI TO (rawInt s.heap.objs.size) → IsPair h' TO x y → SIt b h' i1 l1 (k1 + 1) → SIt c h' i2 l2 (k2 + 1) → IsPair h' s.heap.objs.size x y → Kept z TO i1 i2 s.heap h' → Q (some (.ref s.heap.objs.size)) { s with heap := h' }) :
    wpAny (model prog w) A (pyNext (.ref z)) Q E s := by
  have ty : s.TypeIs (.ref z) "zip" := ⟨_, zz, rfl⟩
  unfold pyNext
  refine wpAny_bind (wpAny_attempt (wpAny_callSpecial?_slot (name := Str.ofString "__next__") ty F.slot_zip_next (wpAny_call_entry F.slot_zip_next ty F.entry_zip_next ?_ (F.args_zip_next_1 _))))
  show wpAny _ _ (field (.ref z) 2 >>= _) _ _ _
  refine wpAny_bind (wpAny_field zz rfl (x := .bool false) rfl ?_)
  show wpAny _ _ (field (.ref z) 3 >>= _) _ _ _
  refine wpAny_bind (wpAny_field zz rfl (x := .ref TI) rfl (wpAny_bind (wpAny_seqItems ti rfl ?_)))
  show wpAny _ _ (Builtin.SmallTypes.ownedTupleIsFree (.ref z) >>= _) _ _ _
  refine wpAny_bind ?_
  unfold Builtin.SmallTypes.ownedTupleIsFree
  refine wpAny_bind (wpAny_field zz rfl (x := .none) rfl (wpAny_pure ?_))
  simp only [if_true]
  refine wpAny_bind (wpAny_rule (wpAny_bind (wpAny_field zz rfl (x := .ref TO) rfl (wpAny_bind (wpAny_setField_rec zz (by simp) fun h1 z1 c1 => ?_)))))
  have z1' : IsZip h1 z TI TO .ellipsis := z1
  refine wpAny_bind ?_
  simp only [List.zipIdx_cons, List.zipIdx_nil, List.forIn_cons, List.forIn_nil]
  refine wpAny_bind (wpAny_bind (wpAny_onRaise ?_))
  show wpAny _ _ (Builtin.SmallTypes.nextOf (.ref i1) >>= _) _ _ _
  refine wpAny_bind (s_item (s1.but c1 D.i1z) (o1.but c1 D.l1z) ex fun h2 t2 c2 => wpAny_pure ?_)
  have to2 : IsPair h2 TO u v := (c2.2 _ D.TOi1).trans ((c1.2 _ D.TOz).trans to)
  refine wpAny_bind (wpAny_seqItems to2 rfl (wpAny_bind (wpAny_updateSeq_pair to2 fun h3 to3 c3 => wpAny_bind (wpAny_letGo (wpAny_pure ?_)))))
  have to3' : IsPair h3 TO x v := to3
  refine wpAny_bind (wpAny_bind (wpAny_onRaise ?_))
  show wpAny _ _ (Builtin.SmallTypes.nextOf (.ref i2) >>= _) _ _ _
  refine wpAny_bind (s_item (((s2.but c1 D.i2z).but c2 D.i12.symm).but c3 D.TOi2.symm) (((o2.but c1 D.l2z).but c2 D.l2i1).but c3 D.l2TO) ey fun h4 t4 c4 => wpAny_pure ?_)
  have to4 : IsPair h4 TO x v := (c4.2 _ D.TOi2).trans to3'
  refine wpAny_bind (wpAny_seqItems to4 rfl (wpAny_bind (wpAny_updateSeq_pair to4 fun h5 to5 c5 => wpAny_bind (wpAny_letGo (wpAny_pure (wpAny_pure ?_))))))
  have to5' : IsPair h5 TO x y := to5
  have sz5 : h5.objs.size = s.heap.objs.size := c5.1.trans (c4.1.trans (c3.1.trans (c2.1.trans c1.1)))
  have z5 : IsZip h5 z TI TO .ellipsis := (c5.2 _ D.TOz.symm).trans ((c4.2 _ D.i2z.symm).trans ((c3.2 _ D.TOz.symm).trans ((c2.2 _ D.i1z.symm).trans z1')))
  have zl : z < h5.objs.size := Heap.lt_size z5
  have s15 : SIt b h5 i1 l1 (k1 + 1) := ((t2.but c3 D.TOi1.symm).but c4 D.i12).but c5 D.TOi1.symm
  have s25 : SIt c h5 i2 l2 (k2 + 1) := t4.but c5 D.TOi2.symm
  refine wpAny_bind (wpAny_seqItems to5' rfl (wpAny_bind (wpAny_newTuple ?_)))
  show wpAny _ _ (Builtin.SmallTypes.ownedTupleHandOut (.ref z) (.ref h5.objs.size) >>= _) _ _ _
  refine wpAny_bind ?_
  unfold Builtin.SmallTypes.ownedTupleHandOut
  have z6 : IsZip (h5.push (seqObj "tuple" #[x, y] 0)) z TI TO .ellipsis := Heap.get?_push_of_some _ z5
  refine wpAny_bind (wpAny_setField_rec z6 (by simp) fun h7 z7 c7 => ?_)
  have z7' : IsZip h7 z TI TO (rawInt h5.objs.size) := z7
  refine wpAny_setField_rec z7' (by simp) fun h8 z8 c8 => ?_
  have z8' : IsZip h8 z TI TO (rawInt h5.objs.size) := z8
  have up : ∀ d o, d ≠ z → h5.get? d = some o → h8.get? d = some o := fun d o n gd => (c8.2 d n).trans ((c7.2 d n).trans (Heap.get?_push_of_some _ gd))
  have tn : IsPair h8 h5.objs.size x y := (c8.2 _ (Nat.ne_of_gt zl)).trans ((c7.2 _ (Nat.ne_of_gt zl)).trans (Heap.get?_push_size _ rfl))
  refine wpAny_pure ⟨_, rfl, wpAny_pure ?_⟩
  show Q (some (.ref h5.objs.size)) _
  rw [sz5] at z8' tn ⊢
  exact q h8 z8' (up _ _ D.TOz to5') (s15.keep fun o g => up _ o D.i1z g) (s25.keep fun o g => up _ o D.i2z g) tn fun d o n1 n2 n3 n4 g => up d o n1 ((c5.2 d n2).trans ((c4.2 d n4).trans ((c3.2 d n2).trans ((c2.2 d n3).trans ((c1.2 d n1).trans g)))))
theorem zw_end {Q : Option Value → Shared → Prop} (hh : A.handled = none) (D : ZipApart z TI TO i1 i2 l1 l2) (zz : IsZip s.heap z TI TO .none) (ti : IsPair s.heap TI (.ref i1) (.ref i2)) (to : IsPair s.heap TO u v) (s1 : SIt b s.heap i1 l1 k1) (s2 : SIt c s.heap i2 l2 k2)
    (o1 : SOf b s.heap l1 xs) (o2 : SOf c s.heap l2 ys) (ee : xs[k1]? = none ∨ ys[k2]? = none) (q : ∀ h', Kept z TO i1 i2 s.heap h' → Q none { s with heap := h' }) : wpAny (model prog w) A (pyNext (.ref z)) Q E s := by
  have ty : s.TypeIs (.ref z) "zip" := ⟨_, zz, rfl⟩
  have stop : ∀ (h' : Heap) (e : Addr), Kept z TO i1 i2 s.heap h' → (∃ o, h'.get? e = some o ∧ o.cls = .type "StopIteration") → wpAny (model prog w) A (isInstance (.ref e) (.type "StopIteration") >>= fun r => if r = true then (pure none : Sem (Option Value)) else throw (.ref e)) Q E { s with heap := h' } := fun h' e kp ⟨o, g, cl⟩ =>
    wpAny_bind (wpAny_isInstance (T := "StopIteration") (b := true) ⟨o, g, cl⟩ isSubtype_stop (wpAny_pure (q _ kp)))
  unfold pyNext
  refine wpAny_bind (wpAny_attempt (wpAny_callSpecial?_slot (name := Str.ofString "__next__") ty F.slot_zip_next (wpAny_call_entry F.slot_zip_next ty F.entry_zip_next ?_ (F.args_zip_next_1 _))))
  show wpAny _ _ (field (.ref z) 2 >>= _) _ _ _
  refine wpAny_bind (wpAny_field zz rfl (x := .bool false) rfl ?_)
  show wpAny _ _ (field (.ref z) 3 >>= _) _ _ _
  refine wpAny_bind (wpAny_field zz rfl (x := .ref TI) rfl (wpAny_bind (wpAny_seqItems ti rfl ?_)))
  show wpAny _ _ (Builtin.SmallTypes.ownedTupleIsFree (.ref z) >>= _) _ _ _
  refine wpAny_bind ?_
  unfold Builtin.SmallTypes.ownedTupleIsFree
  refine wpAny_bind (wpAny_field zz rfl (x := .none) rfl (wpAny_pure ?_))
  simp only [if_true]
  refine wpAny_bind (wpAny_rule (wpAny_bind (wpAny_field zz rfl (x := .ref TO) rfl (wpAny_bind (wpAny_setField_rec zz (by simp) fun h1 z1 c1 => ?_)))))
  have z1' : IsZip h1 z TI TO .ellipsis := z1
  refine wpAny_bind ?_
  simp only [List.zipIdx_cons, List.zipIdx_nil, List.forIn_cons, List.forIn_nil]
  refine wpAny_bind (wpAny_bind (wpAny_onRaise ?_))
  show wpAny _ _ (Builtin.SmallTypes.nextOf (.ref i1) >>= _) _ _ _
  cases ex : xs[k1]? with
  | none =>
    refine wpAny_bind (s_end hh (s1.but c1 D.i1z) (o1.but c1 D.l1z) ex fun h2 e k2' ⟨oe, ge, ce⟩ => ?_)
    have z2 : IsZip h2 z TI TO .ellipsis := k2' _ _ D.i1z.symm z1'
    have ez : e ≠ z := fun r => by
      rw [r, z2] at ge
      cases ge
      simp at ce
    refine wpAny_setField_rec z2 (by simp) fun h3 _ c3 => stop h3 e (fun d o n1 _ n3 _ g => (c3.2 d n1).trans (k2' d o n3 ((c1.2 d n1).trans g))) ⟨oe, (c3.2 e ez).trans ge, ce⟩
  | some x =>
    have ey : ys[k2]? = none := by
      rcases ee with r | r
      · rw [ex] at r
        cases r
      · exact r
    refine wpAny_bind (s_item (s1.but c1 D.i1z) (o1.but c1 D.l1z) ex fun h2 t2 c2 => wpAny_pure ?_)
    have to2 : IsPair h2 TO u v := (c2.2 _ D.TOi1).trans ((c1.2 _ D.TOz).trans to)
    refine wpAny_bind (wpAny_seqItems to2 rfl (wpAny_bind (wpAny_updateSeq_pair to2 fun h3 to3 c3 => wpAny_bind (wpAny_letGo (wpAny_pure ?_)))))
    refine wpAny_bind (wpAny_bind (wpAny_onRaise ?_))
    show wpAny _ _ (Builtin.SmallTypes.nextOf (.ref i2) >>= _) _ _ _
    refine wpAny_bind (s_end hh (((s2.but c1 D.i2z).but c2 D.i12.symm).but c3 D.TOi2.symm) (((o2.but c1 D.l2z).but c2 D.l2i1).but c3 D.l2TO) ey fun h4 e k4 ⟨oe, ge, ce⟩ => ?_)
    have z4 : IsZip h4 z TI TO .ellipsis := k4 _ _ D.i2z.symm ((c3.2 _ D.TOz.symm).trans ((c2.2 _ D.i1z.symm).trans z1'))
    have ez : e ≠ z := fun r => by
      rw [r, z4] at ge
      cases ge
      simp at ce
    refine wpAny_setField_rec z4 (by simp) fun h5 _ c5 => stop h5 e (fun d o n1 n2 n3 n4 g => (c5.2 d n1).trans (k4 d o n4 ((c3.2 d n2).trans ((c2.2 d n3).trans ((c1.2 d n1).trans g))))) ⟨oe, (c5.2 e ez).trans ge, ce⟩
end
/-- an iterator at its beginning -/
def itO (b : Bool) (l : Addr) : Obj := { cls := .type (match b with | false => "list_iterator" | true => "tuple_iterator"), data := .fields #[.ref l, .int 0 0] }
theorem itO_at {b : Bool} {h : Heap} {a l : Addr} (g : h.get? a = some (itO b l)) : SIt b h a l 0 := by
  cases b <;> exact ⟨_, g, rfl, rfl⟩
def zh3 (b c : Bool) (h : Heap) (l m : Addr) : Heap := ((h.push (itO b l)).push (itO c m)).push (seqObj "tuple" #[.ref h.objs.size, .ref (h.objs.size + 1)] 0)
def zh5 (b c : Bool) (h : Heap) (l m : Addr) : Heap := ((zh3 b c h l m).push (seqObj "tuple" #[.none, .none] 0)).push { cls := .type "zip", data := .fields #[.none, .bool false, .bool false, .ref (h.objs.size + 2), .ref (h.objs.size + 3)] }
theorem new_zip (b c : Bool) (l m : Addr) (xs ys : Array Value) :
    Meets (Builtin.«zip.__new__» ⟨[.type "zip", .ref l, .ref m], []⟩) (fun _ R s => SOf b s.heap l xs ∧ SOf c s.heap m ys ∧ R (.ok (.ret (.ref (s.heap.objs.size + 4)))) { s with heap := zh5 b c s.heap l m }) :=
  .of_wp fun prog w A R s ⟨o1, o2, hR⟩ => by
    obtain ⟨h, g, d, tk, os⟩ := s
    have sb := sub_zip
    have p1 : (h.push (itO b l)).objs.size = h.objs.size + 1 := Heap.size_push ..
    have p2 : ((h.push (itO b l)).push (itO c m)).objs.size = h.objs.size + 2 := by rw [Heap.size_push, p1]
    have p3 : (zh3 b c h l m).objs.size = h.objs.size + 3 := (Heap.size_push ..).trans (by rw [p2])
    have p4 : ((zh3 b c h l m).push (seqObj "tuple" #[.none, .none] 0)).objs.size = h.objs.size + 4 := (Heap.size_push ..).trans (by rw [p3])
    have o2' : SOf c (h.push (itO b l)) m ys := o2.keep fun o gm => Heap.get?_push_of_some _ gm
    unfold zh5 at hR
    rw [← p4, ← p3, ← p2] at hR
    unfold zh3 at hR
    rw [← p1] at hR
    cases b <;> cases c
    · have t1 : Heap.IsList (Shared.heap ⟨h, g, d, tk, os⟩) l xs := o1
      have t2 : Heap.IsList (Shared.heap ⟨h.push { cls := .type "list_iterator", data := .fields #[.ref l, .int 0 0] }, g, d, tk, os⟩) m ys := o2'
      wp_walk using wpAny_pyIter_list t1, wpAny_pyIter_list t2
      exact ⟨_, rfl, hR⟩
    · have t1 : Heap.IsList (Shared.heap ⟨h, g, d, tk, os⟩) l xs := o1
      have t2 : Heap.IsTuple (Shared.heap ⟨h.push { cls := .type "list_iterator", data := .fields #[.ref l, .int 0 0] }, g, d, tk, os⟩) m ys := o2'
      wp_walk using wpAny_pyIter_list t1, wpAny_pyIter_tuple t2
      exact ⟨_, rfl, hR⟩
    · have t1 : Heap.IsTuple (Shared.heap ⟨h, g, d, tk, os⟩) l xs := o1
      have t2 : Heap.IsList (Shared.heap ⟨h.push { cls := .type "tuple_iterator", data := .fields #[.ref l, .int 0 0] }, g, d, tk, os⟩) m ys := o2'
      wp_walk using wpAny_pyIter_tuple t1, wpAny_pyIter_list t2
      exact ⟨_, rfl, hR⟩
    · have t1 : Heap.IsTuple (Shared.heap ⟨h, g, d, tk, os⟩) l xs := o1
      have t2 : Heap.IsTuple (Shared.heap ⟨h.push { cls := .type "tuple_iterator", data := .fields #[.ref l, .int 0 0] }, g, d, tk, os⟩) m ys := o2'
      wp_walk using wpAny_pyIter_tuple t1, wpAny_pyIter_tuple t2
      exact ⟨_, rfl, hR⟩
section
variable {prog : Program} {w : World} {A : Around} {E : Value → Shared → Prop} {s : Shared} {b c : Bool} {l m : Addr} {xs ys : Array Value}
theorem call_zw {Q : Value → Shared → Prop} (o1 : SOf b s.heap l xs) (o2 : SOf c s.heap m ys)
    (q : ∀ h', IsZip h' (s.heap.objs.size + 4) (s.heap.objs.size + 2) (s.heap.objs.size + 3) .none → IsPair h' (s.heap.objs.size + 2) (.ref s.heap.objs.size) (.ref (s.heap.objs.size + 1)) → IsPair h' (s.heap.objs.size + 3) .none .none →
      SIt b h' s.heap.objs.size l 0 → SIt c h' (s.heap.objs.size + 1) m 0 → (∀ d o, s.heap.get? d = some o → h'.get? d = some o) → Q (.ref (s.heap.objs.size + 4)) { s with heap := h' }) :
    wpAny (model prog w) A (call (.type "zip") [.ref l, .ref m]) Q E s := by
  refine callType_new F.called_zip (by decide) (F.typeCall_zip_2 _ _) (F.newCall_zip_2 _ _) (fun obj => F.args_object_init_3 obj _ _) F.entry_zip_new (new_zip b c l m xs ys) ⟨o1, o2, ?_⟩
  have p1 : (s.heap.push (itO b l)).objs.size = s.heap.objs.size + 1 := Heap.size_push ..
  have p2 : ((s.heap.push (itO b l)).push (itO c m)).objs.size = s.heap.objs.size + 2 := by rw [Heap.size_push, p1]
  have p3 : (zh3 b c s.heap l m).objs.size = s.heap.objs.size + 3 := (Heap.size_push ..).trans (by rw [p2])
  have p4 : ((zh3 b c s.heap l m).push (seqObj "tuple" #[.none, .none] 0)).objs.size = s.heap.objs.size + 4 := (Heap.size_push ..).trans (by rw [p3])
  have up1 : ∀ d o, (zh3 b c s.heap l m).get? d = some o → (zh5 b c s.heap l m).get? d = some o := fun d o g => Heap.get?_push_of_some _ (Heap.get?_push_of_some _ g)
  have up2 : ∀ d o, ((s.heap.push (itO b l)).push (itO c m)).get? d = some o → (zh5 b c s.heap l m).get? d = some o := fun d o g => up1 d o (Heap.get?_push_of_some _ g)
  have gz : IsZip (zh5 b c s.heap l m) (s.heap.objs.size + 4) (s.heap.objs.size + 2) (s.heap.objs.size + 3) .none := by
    rw [← p4]
    exact Heap.get?_push_size _ rfl
  have g3 : IsPair (zh5 b c s.heap l m) (s.heap.objs.size + 3) .none .none := by
    rw [← p3]
    exact Heap.get?_push_of_some _ (Heap.get?_push_size _ rfl)
  have g2 : IsPair (zh5 b c s.heap l m) (s.heap.objs.size + 2) (.ref s.heap.objs.size) (.ref (s.heap.objs.size + 1)) := up1 _ _ (by
    rw [← p2]
    exact Heap.get?_push_size _ rfl)
  have g1 : (zh5 b c s.heap l m).get? (s.heap.objs.size + 1) = some (itO c m) := up2 _ _ (by
    rw [← p1]
    exact Heap.get?_push_size _ rfl)
  have g0 : (zh5 b c s.heap l m).get? s.heap.objs.size = some (itO b l) := up2 _ _ (Heap.get?_push_of_some _ (Heap.get?_push_size _ rfl))
  exact ⟨⟨_, gz, rfl⟩, q _ gz g2 g3 (itO_at g0) (itO_at g1) fun d o g => up2 d o (Heap.get?_push_of_some _ (Heap.get?_push_of_some _ g))⟩
end
def ItzS (b c : Bool) (K : PySem.W.Frag) (l m : Addr) : It :=
  ⟨fun i H => ∃ (xs ys : List V) (x y : V), SqS b K H l xs ∧ SqS c K H m ys ∧ xs[i]? = some x ∧ ys[i]? = some y,
    fun i H v H' => ∃ T x y, v = .ref T ∧ H T = none ∧ H' = upd H T (.tup [x, y]) ∧ (∀ xs, SqS b K H l xs → xs[i]? = some x) ∧ ∀ ys, SqS c K H m ys → ys[i]? = some y,
    fun i H => ∃ xs ys : List V, SqS b K H l xs ∧ SqS c K H m ys ∧ (xs.length ≤ i ∨ ys.length ≤ i)⟩
def five (z TI TO i1 i2 : Addr) : List Addr := [z, TI, TO, i1, i2]
theorem five_cases {d z TI TO i1 i2 : Addr} (h : d ∈ five z TI TO i1 i2) : d = z ∨ d = TI ∨ d = TO ∨ d = i1 ∨ d = i2 := by simpa [five] using h
theorem turn_zw {P : Program} {w : World} {K : PySem.W.Frag} {elts : List Expr} {kk : Nat} {tpos : Pos} {b c : Bool} {l m z TI TO i1 i2 : Addr} (D : ZipApart z TI TO i1 i2 l m) :
    Turn P w K (.Tuple elts kk tpos) (ItzS b c K l m) (five z TI TO i1 i2) z (fun i h => IsZip h z TI TO .none ∧ IsPair h TI (.ref i1) (.ref i2) ∧ (∃ x y, IsPair h TO x y) ∧ SIt b h i1 l i ∧ SIt c h i2 m i) where
  mem := List.mem_cons_self
  obj := fun i h st d hd => by
    obtain ⟨zz, ti, ⟨x, y, to⟩, s1, s2⟩ := st
    rcases five_cases hd with e | e | e | e | e <;> rw [e]
    · exact ⟨_, zz, fun v q => nomatch q⟩
    · exact ⟨_, ti, fun v q => nomatch q⟩
    · exact ⟨_, to, fun v q => nomatch q⟩
    · exact s1.obj
    · exact s2.obj
  keep := fun i h h' st k => by
    obtain ⟨zz, ti, ⟨x, y, to⟩, s1, s2⟩ := st
    have m : ∀ d, (d = z ∨ d = TI ∨ d = TO ∨ d = i1 ∨ d = i2) → d ∈ five z TI TO i1 i2 := fun d e => by simpa [five] using e
    exact ⟨k z (m _ (by simp)) _ zz, k TI (m _ (by simp)) _ ti, ⟨x, y, k TO (m _ (by simp)) _ to⟩, s1.keep fun o g => k i1 (m _ (by simp)) o g, s2.keep fun o g => k i2 (m _ (by simp)) o g⟩
  item := by
    intro X hP hw hK _ i pins s σ H E I fp st go
    subst hP hw hK
    obtain ⟨zz, ti, ⟨x0, y0, to⟩, s1, s2⟩ := st
    obtain ⟨xs, ys, x, y, q1, q2, hx, hy⟩ := go
    obtain ⟨its, rv, o1, _⟩ := sOf I q1
    obtain ⟨jts, rw', o2, _⟩ := sOf I q2
    obtain ⟨u, hu, ru⟩ := rv.get hx
    obtain ⟨v, hv, rv2⟩ := rw'.get hy
    have zl := Heap.lt_size zz
    refine zw_item D zz ti to s1 s2 o1 o2 (x := u) (y := v) (by simpa using hu) (by simpa using hv) fun h1 z1 to1 s11 s21 g kp => ⟨_, rfl, wpAny_letOwnedTupleGo_zip (s := { s with heap := h1 }) z1 fun h2 z2 c2 => ?_⟩
    have g2 : h2.get? s.heap.objs.size = some (seqObj "tuple" #[u, v] 0) := (c2.2 _ (Nat.ne_of_gt zl)).trans g
    have new : ObjOk X.prog X.w (upd H s.heap.objs.size (.tup [x, y])) h2 s.heap.objs.size (.tup [x, y]) := ⟨by show 2 ≤ sizeLine; decide, [u, v], .cons ru (.cons rv2 .nil), ⟨_, g2, rfl, _, rfl⟩⟩
    have kp2 : ∀ d o, d ∉ five z TI TO i1 i2 → s.heap.get? d = some o → h2.get? d = some o := fun d o hd gd => by
      have n : ∀ e, (e = z ∨ e = TI ∨ e = TO ∨ e = i1 ∨ e = i2) → d ≠ e := fun e he r => hd (by rw [r]; simpa [five] using he)
      exact (c2.2 d (n z (by simp))).trans (kp d o (n z (by simp)) (n TO (by simp)) (n i1 (by simp)) (n i2 (by simp)) gd)
    have I2 : Inv X pins σ (upd H s.heap.objs.size (.tup [x, y])) { s with heap := h2 } := I.turnedNew (t' := s.toks) kp2 fp (Nat.le_refl _) new
    refine ⟨.ref s.heap.objs.size, _, I2, rfl, ⟨_, x, y, rfl, I.hok.fresh (Nat.le_refl _), rfl, fun zs hz => by rw [sInj I hz q1]; exact hx, fun zs hz => by rw [sInj I hz q2]; exact hy⟩, ⟨z2, (c2.2 _ D.TIz).trans (kp _ _ D.TIz D.TITO D.TIi1 D.TIi2 ti), ⟨u, v, (c2.2 _ D.TOz).trans to1⟩, s11.but c2 D.i1z, s21.but c2 D.i2z⟩, fun d hd => ?_⟩
    have lt : d < s.heap.objs.size := by
      rcases five_cases hd with e | e | e | e | e <;> rw [e]
      · exact zl
      · exact Heap.lt_size ti
      · exact Heap.lt_size to
      · exact s1.lt
      · exact s2.lt
    rw [upd_ne (Nat.ne_of_lt lt)]
    exact (fp d hd).1
  done := by
    intro X hP hw hK hcalm i pins s σ H E I fp st stop
    subst hP hw hK
    obtain ⟨zz, ti, ⟨x0, y0, to⟩, s1, s2⟩ := st
    obtain ⟨xs, ys, q1, q2, hend⟩ := stop
    obtain ⟨its, rv, o1, _⟩ := sOf I q1
    obtain ⟨jts, rw', o2, _⟩ := sOf I q2
    have n1 := rv.length
    have n2 := rw'.length
    have he : its.toArray[i]? = none ∨ jts.toArray[i]? = none := by
      rcases hend with e | e
      · exact .inl (by simp; omega)
      · exact .inr (by simp; omega)
    refine zw_end (I.ok.hd hcalm) D zz ti to s1 s2 o1 o2 he fun h1 kp => ⟨rfl, I.turnedL (t' := s.toks) (ch := five z TI TO i1 i2) (fun d o hd g => ?_) fp⟩
    have n : ∀ e, (e = z ∨ e = TI ∨ e = TO ∨ e = i1 ∨ e = i2) → d ≠ e := fun e he r => hd (by rw [r]; simpa [five] using he)
    exact kp d o (n z (by simp)) (n TO (by simp)) (n i1 (by simp)) (n i2 (by simp)) g
  self := fun A i s Q E st q => wpAny_pyIter_zip st.1 q
def iZw (K : PySem.W.Frag) (ta : TA) : TI := fun σ H R => ta σ H fun vs H1 => ∃ b c l m xs ys, vs = [.ref l, .ref m] ∧ SqS b K H1 l xs ∧ SqS c K H1 m ys ∧ R (ItzS b c K l m) H1
theorem pi_zw {X : Cx} {e e2 : Expr} {ta : TA} {p pos tpos : Pos} {elts : List Expr} {kk : Nat} (hg : Gl X "zip") (hm : X.mg "zip" = none) (ha : PA X [e, e2] ta) (hs : starEach [e, e2] X.env = (false, eval e X.env) :: starEach [e2] X.env := by rfl) (hpl : (backTo pos (starEach [e2] X.env)).any (·.1) = false := by rfl) :
    PI X (.Tuple elts kk tpos) (.Call (.Name "zip" p) [e, e2] [] pos) (iZw X.K ta) := by
  refine ⟨fun pins s σ H R I h => Call_ (ld_blt I hg hm PyProof.Rows.boot_zip (PyProof.Rows.callWith_type1 (thn (ha.run pos pins s σ H _ I h) fun us s1 ⟨vs, H1, I1, r1, q1⟩ => ?_) hs hpl))⟩
  obtain ⟨b, c, l, m, xs, ys, rfl, q1, q2, q⟩ := q1
  obtain ⟨u, v, rfl, ru, rv⟩ := vals2 r1
  cases ru
  cases rv
  obtain ⟨its, rv, o1, _⟩ := sOf I1 q1
  obtain ⟨jts, rw', o2, _⟩ := sOf I1 q2
  have lt : ∀ {b : Bool} {a : Addr} {zs : Array Value}, SOf b s1.heap a zs → a < s1.heap.objs.size := fun {b a zs} o => by
    cases b with
    | false =>
      obtain ⟨_, g, _⟩ := (o : s1.heap.IsList a zs)
      exact Heap.lt_size g
    | true =>
      obtain ⟨_, g, _⟩ := (o : s1.heap.IsTuple a zs)
      exact Heap.lt_size g
  refine call_zw o1 o2 fun h1 zz ti to t1 t2 kp => wpAny_pyIter_zip zz ?_
  have I2 : Inv X pins σ H1 { s1 with heap := h1 } := I1.kept (t' := s1.toks) kp
  refine ⟨s1.heap.objs.size + 4, five (s1.heap.objs.size + 4) (s1.heap.objs.size + 2) (s1.heap.objs.size + 3) s1.heap.objs.size (s1.heap.objs.size + 1), _, _, H1, rfl, I2, turn_zw (PySem.W.ktu_apart s1.heap.objs.size l m (lt o1) (lt o2)), ⟨zz, ti, ⟨_, _, to⟩, t1, t2⟩, fun d hd => ?_, q⟩
  have le : s1.heap.objs.size ≤ d := by rcases five_cases hd with e | e | e | e | e <;> rw [e] <;> first | exact Nat.le_add_right _ _ | exact Nat.le_refl _
  exact I1.fpOk le (I1.hok.fresh le)
end ZW

set_option Elab.async false
set_option linter.all false
set_option maxRecDepth 100000
set_option maxHeartbeats 4000000
/-! Zv: short steps for lists or tuples: enumerate, zip, subscripts; a list or a dict by a number. -/
namespace Z
open PySem PySem.Spec PyProof.Rows L2 ZW
open Evl (Ex ex_l ex_t ex_rd sq_of st_of fresh_back RetL RetV)
section
variable {K : PySem.W.Frag} {b c : Bool} {a m : Addr} {xs ys : List V}
theorem walk_enS : Walk (IteS b K a) xs.length (fun H => SqS b K H a xs) (YPair (fun i => some (.int (i : Nat))) (fun i => xs[i]?)) := by
  refine ⟨fun i _ hi q => ⟨xs, xs[i], q, List.getElem?_eq_getElem hi⟩, fun _ q => ⟨xs, q, Nat.le_refl _⟩, fun i H v H' _ q y => ?_⟩
  obtain ⟨T, x, h1, h2, h3, h4⟩ := y
  exact ⟨T, _, x, h1, h2, h3, rfl, h4 xs q⟩
theorem walk_zw {n : Nat} (hn : n = min xs.length ys.length) : Walk (ItzS b c K a m) n (fun H => SqS b K H a xs ∧ SqS c K H m ys) (YPair (fun i => xs[i]?) (fun i => ys[i]?)) := by
  refine ⟨fun i _ hi q => ⟨xs, ys, xs[i]'(by omega), ys[i]'(by omega), q.1, q.2, List.getElem?_eq_getElem (by omega), List.getElem?_eq_getElem (by omega)⟩, fun _ q => ⟨xs, ys, q.1, q.2, by omega⟩, fun i H v H' _ q y => ?_⟩
  obtain ⟨T, x, y, h1, h2, h3, h4, h5⟩ := y
  exact ⟨T, x, y, h1, h2, h3, h4 xs q.1, h5 ys q.2⟩
theorem sqs_l {H : Hp} (h : SqL K H a xs) : SqS false K H a xs := h
theorem sqs_t {H : Hp} (h : SqT K H a xs) : SqS true K H a xs := h
theorem ex_s {H H' : Hp} (e : Ex H H') (h : SqS b K H a xs) : SqS b K H' a xs := by
  cases b with
  | false => exact ex_l e h
  | true => exact ex_t e h
end
def FEs (K : PySem.W.Frag) (g : TG) (tb : TS) (D : Ends) (σ : L2.St) (vs : List V) (H1 : Hp) : Prop := ∃ b a xs, vs = [.ref a] ∧ SqS b K H1 a xs ∧ FW (IteS b K a) g tb D σ H1
def FZw (K : PySem.W.Frag) (g : TG) (tb : TS) (D : Ends) (σ : L2.St) (vs : List V) (H1 : Hp) : Prop := ∃ b c l m xs ys, vs = [.ref l, .ref m] ∧ SqS b K H1 l xs ∧ SqS c K H1 m ys ∧ FW (ItzS b c K l m) g tb D σ H1
def CEs (K : PySem.W.Frag) (g : TG) (tt : TT) (te : TE) (vs : List Nat) (σ : L2.St) (xs : List V) (H1 : Hp) (Q : VK) : Prop := ∃ b a ys, xs = [.ref a] ∧ SqS b K H1 a ys ∧ CW (IteS b K a) g tt te vs σ H1 Q
def CZw (K : PySem.W.Frag) (g : TG) (tt : TT) (te : TE) (vs : List Nat) (σ : L2.St) (xs : List V) (H1 : Hp) (Q : VK) : Prop := ∃ b c l m ys zs, xs = [.ref l, .ref m] ∧ SqS b K H1 l ys ∧ SqS c K H1 m zs ∧ CW (ItzS b c K l m) g tt te vs σ H1 Q
section
variable {K : PySem.W.Frag} {σ : L2.St} {H : Hp} {Q : VK} {D : Ends} {g : TG} {tb : TS} {te tl : TE} {tt : TT} {ta : TA} {vs : List Nat} {a m : Addr} {xs ys : List V} {n j k : Nat} {b c : Bool}
theorem z_fes (q : ta σ H fun x H1 => FEs K g tb D σ x H1) : tFor (iEnS K ta) g tb D σ H := q
theorem z_fzw (q : ta σ H fun x H1 => FZw K g tb D σ x H1) : tFor (iZw K ta) g tb D σ H := q
theorem z_ces (q : ta σ H fun x H1 => CEs K g tt te vs σ x H1 Q) : tLc (iEnS K ta) g tt te vs σ H Q := q
theorem z_czw (q : ta σ H fun x H1 => CZw K g tt te vs σ x H1 Q) : tLc (iZw K ta) g tt te vs σ H Q := q
theorem z_FEs (hx : SqS b K H a xs) (Pv : Nat → L2.St → Hp → Prop) (h0 : Pv 0 σ H) (hG : ∀ i σ H, i ≤ xs.length → Pv i σ H → SqS b K H a xs)
    (hs : ∀ i x p σ H H', i < xs.length → xs[i]? = some x → Pv i σ H → Ex H H' → H p = none → H' = upd H p (.tup [.int (i : Nat), x]) → g (.ref p) σ H' fun σ2 H2 => tb { D with nx := Pv (i + 1), ct := Pv (i + 1), bk := D.nx } σ2 H2) (hd : ∀ σ H, Pv xs.length σ H → D.nx σ H) : FEs K g tb D σ [.ref a] H :=
  ⟨b, a, xs, rfl, hx, for_it walk_enS Pv h0 hG (fun i x σ H H' hi p y => by
    obtain ⟨T, u, v, rfl, e1, rfl, e3, e4⟩ := y
    cases e3
    exact hs i v T σ _ _ hi e4 p (Ex.new e1) e1 rfl) hd⟩
theorem z_FZw (hn : n = min xs.length ys.length) (hx : SqS b K H a xs) (hy : SqS c K H m ys) (Pv : Nat → L2.St → Hp → Prop) (h0 : Pv 0 σ H) (hG : ∀ i σ H, i ≤ n → Pv i σ H → SqS b K H a xs ∧ SqS c K H m ys)
    (hs : ∀ i x y p σ H H', i < n → xs[i]? = some x → ys[i]? = some y → Pv i σ H → Ex H H' → H p = none → H' = upd H p (.tup [x, y]) → g (.ref p) σ H' fun σ2 H2 => tb { D with nx := Pv (i + 1), ct := Pv (i + 1), bk := D.nx } σ2 H2) (hd : ∀ σ H, Pv n σ H → D.nx σ H) : FZw K g tb D σ [.ref a, .ref m] H :=
  ⟨b, c, a, m, xs, ys, rfl, hx, hy, for_it (walk_zw hn) Pv h0 hG (fun i x σ H H' hi p y => by
    obtain ⟨T, u, v, rfl, e1, rfl, e3, e4⟩ := y
    exact hs i u v T σ _ _ hi e3 e4 p (Ex.new e1) e1 rfl) hd⟩
/-- things without objects of their own -/
theorem z_CEs (hx : SqS b K H a xs) (hz : xs.length ≤ 40000) (f : Nat → Bool) (v : Nat → V) (hw : ∀ x y, wipe (((wipe σ vs).set k (some x)).set j (some y)) vs = wipe σ vs)
    (ht : ∀ i x H', i < xs.length → xs[i]? = some x → Ex H H' → Evl.EvT tt (((wipe σ vs).set k (some (.int (i : Nat)))).set j (some x)) H' (f i)) (he : ∀ i x H', i < xs.length → xs[i]? = some x → Ex H H' → f i = true → Evl.Ev te (((wipe σ vs).set k (some (.int (i : Nat)))).set j (some x)) H' (v i))
    (q : ∀ p H2, H p = none → Ex H H2 → H2 p = some (.lst (Evl.given xs.length f v)) → Q (.ref p) H2) : CEs K (gTup K 2 (gCons (gName k) (gCons (gName j) gNil))) tt te vs σ [.ref a] H Q :=
  ⟨b, a, xs, rfl, hx, fun Dl hD => lc_it walk_enS (Evl.Cw H f v Dl) ⟨hD, Ex.new hD, upd_same⟩ (fun _ _ _ p => ex_s p.2.1 hx) (fun i x H1 H2 hi p y => by
    obtain ⟨T, u, x', rfl, e1, rfl, e3, e4⟩ := y
    cases e3
    refine z_gtup2 (st_of upd_same) ⟨hw _ _, ?_⟩
    have p2 : Evl.Cw H f v Dl i (upd H1 T (.tup [.int (i : Nat), x'])) := ⟨p.1, p.2.1.trans (Ex.new e1), Ex.new e1 _ _ p.2.2⟩
    exact Evl.cw_turn p2 (by omega) (ht i x' H hi e4 (Ex.refl H)) fun hf => he i x' H hi e4 (Ex.refl H) hf) (fun H' p => q Dl H' p.1 p.2.1 p.2.2)⟩
theorem z_CZw (hn : n = min xs.length ys.length) (hx : SqS b K H a xs) (hy : SqS c K H m ys) (hz : n ≤ 40000) (f : Nat → Bool) (v : Nat → V) (hw : ∀ x y, wipe (((wipe σ vs).set k (some x)).set j (some y)) vs = wipe σ vs)
    (ht : ∀ i x y H', i < n → xs[i]? = some x → ys[i]? = some y → Ex H H' → Evl.EvT tt (((wipe σ vs).set k (some x)).set j (some y)) H' (f i)) (he : ∀ i x y H', i < n → xs[i]? = some x → ys[i]? = some y → Ex H H' → f i = true → Evl.Ev te (((wipe σ vs).set k (some x)).set j (some y)) H' (v i))
    (q : ∀ p H2, H p = none → Ex H H2 → H2 p = some (.lst (Evl.given n f v)) → Q (.ref p) H2) : CZw K (gTup K 2 (gCons (gName k) (gCons (gName j) gNil))) tt te vs σ [.ref a, .ref m] H Q :=
  ⟨b, c, a, m, xs, ys, rfl, hx, hy, fun Dl hD => lc_it (walk_zw hn) (Evl.Cw H f v Dl) ⟨hD, Ex.new hD, upd_same⟩ (fun _ _ _ p => ⟨ex_s p.2.1 hx, ex_s p.2.1 hy⟩) (fun i x H1 H2 hi p y => by
    obtain ⟨T, u, x', rfl, e1, rfl, e3, e4⟩ := y
    refine z_gtup2 (st_of upd_same) ⟨hw _ _, ?_⟩
    have p2 : Evl.Cw H f v Dl i (upd H1 T (.tup [u, x'])) := ⟨p.1, p.2.1.trans (Ex.new e1), Ex.new e1 _ _ p.2.2⟩
    exact Evl.cw_turn p2 (by omega) (ht i u x' H hi e3 e4 (Ex.refl H)) fun hf => he i u x' H hi e3 e4 (Ex.refl H) hf) (fun H' p => q Dl H' p.1 p.2.1 p.2.2)⟩
end
def CT (K : PySem.W.Frag) (g : TG) (tt : TT) (te : TE) (vs : List Nat) (σ : L2.St) (x : V) (H1 : Hp) (Q : VK) : Prop := ∃ a, x = .ref a ∧ (∃ xs, SqT K H1 a xs) ∧ CW (Itt K a) g tt te vs σ H1 Q
section
variable {K : PySem.W.Frag} {σ : L2.St} {H : Hp} {Q : VK} {g : TG} {te tl : TE} {tt : TT} {vs : List Nat} {a : Addr} {xs : List V} {j : Nat}
theorem z_ct (q : tl σ H fun x H1 => CT K g tt te vs σ x H1 Q) : tLc (iTup K tl) g tt te vs σ H Q := q
theorem z_CT (hx : SqT K H a xs) (hz : xs.length ≤ 40000) (f : Nat → Bool) (v : Nat → V) (hw : ∀ x, wipe ((wipe σ vs).set j (some x)) vs = wipe σ vs)
    (ht : ∀ i x H', i < xs.length → xs[i]? = some x → Ex H H' → Evl.EvT tt ((wipe σ vs).set j (some x)) H' (f i)) (he : ∀ i x H', i < xs.length → xs[i]? = some x → Ex H H' → f i = true → Evl.Ev te ((wipe σ vs).set j (some x)) H' (v i))
    (q : ∀ p H2, H p = none → Ex H H2 → H2 p = some (.lst (Evl.given xs.length f v)) → Q (.ref p) H2) : CT K (gName j) tt te vs σ (.ref a) H Q :=
  ⟨a, rfl, ⟨xs, hx⟩, z_CW (X := fun i => xs.getD i .non) (walk_tup.mono (fun _ h => h) (fun i H x H' _ _ y => ⟨y.1, by rw [List.getD_eq_getElem?_getD, y.2] <;> rfl⟩)) hz (fun _ e => ex_t e hx) f v hw
    (fun i H' hi e => ht i _ H' hi (by rw [List.getD_eq_getElem?_getD, List.getElem?_eq_getElem hi] <;> rfl) e) (fun i H' hi e hf => he i _ H' hi (by rw [List.getD_eq_getElem?_getD, List.getElem?_eq_getElem hi] <;> rfl) e hf) q⟩
end
theorem z_lenSq {K : PySem.W.Frag} {H : Hp} {Q : VK} {l : Addr} {xs : List V} {b : Bool} (h : ZW.SqS b K H l xs) (q : Q (.int xs.length) H) : cLenSeq K [.ref l] H Q := by
  cases b with
  | false => exact z_lenL h q
  | true => exact z_lenT h q
/-! ### a list, a tuple or a dict by a number -/
def rIxA (K : PySem.W.Frag) : R2 := fun x y H Q => rIxL K x y H Q ∨ rIxT K x y H Q ∨ ∃ a kvs i v, x = .ref a ∧ y = .int i ∧ H a = some (.dK kvs) ∧ valV kvs (Sum.inl i) = some v ∧ Q v H
theorem ix_any {X : Cx} (hu : X.A.units + 1 < cLine) : IxR X (rIxA X.K) := by
  intro value slice pins s σ H x y v u Q I rx ry h hs
  rcases h with h | h | ⟨a, kvs, i, r, rfl, rfl, hd, e, q⟩
  · exact ix_list value slice pins s σ H x y v u Q I rx ry h hs
  · exact ix_tup value slice pins s σ H x y v u Q I rx ry h hs
  · cases rx
    have dg : DGet H a (.int i) (some r) := by
      rw [← e]
      exact DGet.k (k := Sum.inl i) hd
    exact tail_any (dict_typeIs I dg) slot_dict_getitem.lookup (d_getItem hu I dg ry fun w' s' I' r' => ⟨r, H, I', r', q⟩) hs
section
variable {K : PySem.W.Frag} {H : Hp} {Q : VK} {a : Addr} {xs : List V} {i : Int} {v : V} {kvs : List (Key × V)} {b : Bool}
theorem z_ixAs (h : ZW.SqS b K H a xs) (e : atI xs i = some v) (q : Q v H) : rIxA K (.ref a) (.int i) H Q := by
  cases b with
  | false => exact .inl (z_ixL h e q)
  | true => exact .inr (.inl (z_ixT h e q))
theorem z_ixAd (h : H a = some (.dK kvs)) (e : valV kvs (Sum.inl i) = some v) (q : Q v H) : rIxA K (.ref a) (.int i) H Q := .inr (.inr ⟨a, kvs, i, v, rfl, rfl, h, e, q⟩)
end
end Z

set_option linter.all false
set_option maxHeartbeats 1000000
namespace M03
def isL (c : Nat) : Bool := decide (97 ≤ c) && decide (c ≤ 122)
def isF (c : Nat) : Bool := decide (48 ≤ c) && decide (c ≤ 57)
def isNS (c : Nat) : Bool := isL c || isF c
def toldL : List (List Nat) := [[112, 97, 114, 116], [105, 110], [111, 117, 116], [119, 105, 114, 101], [114, 101, 115, 116], [108, 101, 116], [117, 115, 101], [116, 97, 98, 108, 101], [109, 101, 109, 111, 114, 121], [105, 102], [116, 104, 101, 110], [101, 108, 115, 101], [99, 117, 116], [106, 111, 105, 110], [102, 105, 108, 108]]
def marks1 : List Nat := [58, 44, 46, 61, 60, 38, 124, 94, 43, 45, 126, 40, 41, 91, 93]
def marksL : List (List Nat) := [[58], [44], [46], [61], [61, 61], [60], [38], [124], [94], [43], [45], [126], [40], [41], [91], [93]]
inductive Wd where
  | told (l : List Nat) | mark (l : List Nat) | name (l : List Nat) | num (l : List Nat)
  deriving DecidableEq
def badNum (a : List Nat) : Prop := a.length > 20 ∨ (a.head? = some 48 ∧ a ≠ [48])
instance (a : List Nat) : Decidable (badNum a) := inferInstanceAs (Decidable (_ ∨ _))
def runW (a : List Nat) : Option Wd :=
  if a ∈ toldL then some (.told a)
  else if a.all isF = true then (if badNum a then none else some (.num a))
  else if isF (a.headD 0) = true ∨ a.length > 8 then none else some (.name a)
inductive Step where
  | stop | bad | skip (r : List Nat) | word (w : Wd) (r : List Nat)
def step : List Nat → Step
  | [] => .stop
  | c :: r =>
    if c = 35 then .stop else if c = 32 then .skip r
    else if (c :: r).takeWhile isNS ≠ [] then (match runW ((c :: r).takeWhile isNS) with
      | none => .bad
      | some w => .word w ((c :: r).drop ((c :: r).takeWhile isNS).length))
    else if c = 61 ∧ r.head? = some 61 then .word (.mark [61, 61]) (r.drop 1)
    else if c ∈ marks1 then .word (.mark [c]) r else .bad
theorem step_less : ∀ l r, (step l = .skip r ∨ ∃ w, step l = .word w r) → r.length < l.length
  | [], r, h => by rcases h with h | ⟨w, h⟩ <;> cases h
  | c :: t, r, h => by
    rw [step] at h
    by_cases h1 : c = 35
    · rw [if_pos h1] at h
      rcases h with h | ⟨w, h⟩ <;> cases h
    rw [if_neg h1] at h
    by_cases h2 : c = 32
    · rw [if_pos h2] at h
      rcases h with h | ⟨w, h⟩ <;> cases h
      simp
    rw [if_neg h2] at h
    by_cases h3 : (c :: t).takeWhile isNS ≠ []
    · rw [if_pos h3] at h
      have hl : 0 < ((c :: t).takeWhile isNS).length := List.length_pos_iff.mpr h3
      cases hw : runW ((c :: t).takeWhile isNS) with
      | none =>
        rw [hw] at h
        rcases h with h | ⟨w, h⟩ <;> cases h
      | some w =>
        rw [hw] at h
        rcases h with h | ⟨w', h⟩ <;> cases h
        rw [List.length_drop, List.length_cons]
        omega
    rw [if_neg h3] at h
    by_cases h4 : c = 61 ∧ t.head? = some 61
    · rw [if_pos h4] at h
      rcases h with h | ⟨w', h⟩ <;> cases h
      rw [List.length_drop, List.length_cons]
      omega
    rw [if_neg h4] at h
    by_cases h5 : c ∈ marks1
    · rw [if_pos h5] at h
      rcases h with h | ⟨w', h⟩ <;> cases h
      simp
    · rw [if_neg h5] at h
      rcases h with h | ⟨w', h⟩ <;> cases h
def words (l : List Nat) : Option (List Wd) :=
  match h : step l with
  | .stop => some []
  | .bad => none
  | .skip r => words r
  | .word w r => (words r).map (w :: ·)
termination_by l.length
decreasing_by
  · exact step_less l r (.inl h)
  · exact step_less l r (.inr ⟨w, h⟩)
theorem words_stop {l : List Nat} (h : step l = .stop) : words l = some [] := by
  rw [words]
  split <;> simp_all
theorem words_bad {l : List Nat} (h : step l = .bad) : words l = none := by
  rw [words]
  split <;> simp_all
theorem words_skip {l r : List Nat} (h : step l = .skip r) : words l = words r := by
  rw [words]
  split <;> simp_all
theorem words_word {l r : List Nat} {w : Wd} (h : step l = .word w r) : words l = (words r).map (w :: ·) := by
  rw [words]
  split <;> simp_all
/-- behind a # nothing counts -/
theorem tw_app {pre post : List Nat} : (pre ++ 35 :: post).takeWhile isNS = pre.takeWhile isNS := by
  induction pre with
  | nil => rfl
  | cons c r ih =>
    rw [List.cons_append, List.takeWhile_cons, List.takeWhile_cons, ih]
theorem tw_le (l : List Nat) : (l.takeWhile isNS).length ≤ l.length := by
  induction l with
  | nil => simp
  | cons c r ih =>
    rw [List.takeWhile_cons]
    split <;> simp <;> omega
theorem words_cut (post : List Nat) : ∀ (n : Nat) (pre : List Nat), pre.length ≤ n → 35 ∉ pre → words (pre ++ 35 :: post) = words pre
  | n, [], _, _ => by
    rw [words_stop (l := [] ++ 35 :: post) rfl, words_stop (l := []) rfl]
  | 0, c :: r, h, _ => by simp at h
  | n + 1, c :: r, h, hn => by
    have hc : c ≠ 35 := fun z => hn (by rw [z]; simp)
    have hr : 35 ∉ r := fun z => hn (List.mem_cons_of_mem _ z)
    have hl : r.length ≤ n := by simpa using h
    have tw := tw_app (pre := c :: r) (post := post)
    rw [List.cons_append] at tw
    rw [List.cons_append]
    by_cases h2 : c = 32
    · have s1 : step (c :: (r ++ 35 :: post)) = .skip (r ++ 35 :: post) := by rw [step, if_neg hc, if_pos h2]
      have s2 : step (c :: r) = .skip r := by rw [step, if_neg hc, if_pos h2]
      rw [words_skip s1, words_skip s2, words_cut post n r hl hr]
    by_cases h3 : (c :: r).takeWhile isNS ≠ []
    · have hp : 0 < ((c :: r).takeWhile isNS).length := List.length_pos_iff.mpr h3
      cases hw : runW ((c :: r).takeWhile isNS) with
      | none =>
        have s1 : step (c :: (r ++ 35 :: post)) = .bad := by rw [step, if_neg hc, if_neg h2, tw, if_pos h3, hw]
        have s2 : step (c :: r) = .bad := by rw [step, if_neg hc, if_neg h2, if_pos h3, hw]
        rw [words_bad s1, words_bad s2]
      | some w =>
        have s1 : step (c :: (r ++ 35 :: post)) = .word w ((c :: (r ++ 35 :: post)).drop ((c :: r).takeWhile isNS).length) := by rw [step, if_neg hc, if_neg h2, tw, if_pos h3, hw]
        have s2 : step (c :: r) = .word w ((c :: r).drop ((c :: r).takeWhile isNS).length) := by rw [step, if_neg hc, if_neg h2, if_pos h3, hw]
        have dl := tw_le (c :: r)
        have d1 : (c :: (r ++ 35 :: post)).drop ((c :: r).takeWhile isNS).length = (c :: r).drop ((c :: r).takeWhile isNS).length ++ 35 :: post := by
          rw [← List.cons_append, List.drop_append_of_le_length dl]
        rw [words_word s1, words_word s2, d1, words_cut post n _ (by rw [List.length_drop, List.length_cons]; omega) fun z => hn (List.mem_of_mem_drop z)]
    by_cases h4 : c = 61 ∧ r.head? = some 61
    · obtain ⟨h41, h42⟩ := h4
      cases r with
      | nil => cases h42
      | cons d r =>
        have s1 : step (c :: (d :: r ++ 35 :: post)) = .word (.mark [61, 61]) (r ++ 35 :: post) := by
          rw [step, if_neg hc, if_neg h2, tw, if_neg h3, if_pos ⟨h41, h42⟩] <;> rfl
        have s2 : step (c :: d :: r) = .word (.mark [61, 61]) r := by
          rw [step, if_neg hc, if_neg h2, if_neg h3, if_pos ⟨h41, h42⟩] <;> rfl
        rw [words_word s1, words_word s2, words_cut post n r (by simp at hl; omega) fun z => hr (List.mem_cons_of_mem _ z)]
    have h4' : ¬ (c = 61 ∧ (r ++ 35 :: post).head? = some 61) := fun z => h4 ⟨z.1, by
      cases r with
      | nil => exact absurd (Option.some.inj z.2) (by decide)
      | cons d r => exact z.2⟩
    by_cases h5 : c ∈ marks1
    · have s1 : step (c :: (r ++ 35 :: post)) = .word (.mark [c]) (r ++ 35 :: post) := by rw [step, if_neg hc, if_neg h2, tw, if_neg h3, if_neg h4', if_pos h5]
      have s2 : step (c :: r) = .word (.mark [c]) r := by rw [step, if_neg hc, if_neg h2, if_neg h3, if_neg h4, if_pos h5]
      rw [words_word s1, words_word s2, words_cut post n r hl hr]
    · have s1 : step (c :: (r ++ 35 :: post)) = .bad := by rw [step, if_neg hc, if_neg h2, tw, if_neg h3, if_neg h4', if_neg h5]
      have s2 : step (c :: r) = .bad := by rw [step, if_neg hc, if_neg h2, if_neg h3, if_neg h4, if_neg h5]
      rw [words_bad s1, words_bad s2]
/-- what the program tells of one word's text -/
def nameOk (a : List Nat) : Bool := decide (1 ≤ a.length) && decide (a.length ≤ 8) && isL (a.headD 0) && !decide (a ∈ toldL) && a.all isNS
def numOk (a : List Nat) : Bool := !decide (badNum a) && a.all isF
def wordBy (a : List Nat) : Option Wd :=
  if a ∈ toldL then some (.told a) else if a ∈ marksL then some (.mark a) else if nameOk a = true then some (.name a) else if numOk a = true then some (.num a) else none
theorem ns_not_mark {a : List Nat} (h : a ≠ []) (hn : a.all isNS = true) : a ∉ marksL := fun z => by
  have : ∀ m ∈ marksL, m.all isNS = false := by decide
  rw [this a z] at hn
  cases hn
theorem f_not_l {c : Nat} (h : isF c = true) : isL c = false := by
  unfold isF isL at *
  simp at *
  omega
theorem run_by {a : List Nat} (h : a ≠ []) (hn : a.all isNS = true) : wordBy a = runW a := by
  unfold wordBy runW
  by_cases h1 : a ∈ toldL
  · rw [if_pos h1, if_pos h1]
  rw [if_neg h1, if_neg h1, if_neg (ns_not_mark h hn)]
  obtain ⟨c, r, rfl⟩ : ∃ c r, a = c :: r := by
    cases a with
    | nil => exact absurd rfl h
    | cons c r => exact ⟨c, r, rfl⟩
  have hc : isNS c = true := List.all_eq_true.mp hn c (by simp)
  by_cases h2 : (c :: r).all isF = true
  · have fc : isF c = true := List.all_eq_true.mp h2 c (by simp)
    have n1 : nameOk (c :: r) = false := by
      unfold nameOk
      rw [show isL ((c :: r).headD 0) = false from f_not_l fc]
      simp
    rw [if_pos h2, n1, if_neg Bool.false_ne_true]
    unfold numOk
    rw [h2, Bool.and_true]
    by_cases h3 : badNum (c :: r)
    · rw [if_pos h3, decide_eq_true h3, if_neg (by decide)]
    · rw [if_neg h3, decide_eq_false h3, if_pos (by decide)]
  · have f2 : (c :: r).all isF = false := Bool.eq_false_iff.mpr h2
    rw [if_neg h2]
    have n2 : numOk (c :: r) = false := by
      unfold numOk
      rw [f2, Bool.and_false]
    rw [n2, if_neg (show ¬ false = true by decide)]
    by_cases h4 : isF c = true
    · have A : nameOk (c :: r) = false := by
        unfold nameOk
        rw [show isL ((c :: r).headD 0) = false from f_not_l h4]
        simp
      have B : isF ((c :: r).headD 0) = true ∨ (c :: r).length > 8 := Or.inl h4
      rw [A, if_neg Bool.false_ne_true, if_pos B]
    · have lc : isL c = true := by
        unfold isNS at hc
        rw [Bool.eq_false_iff.mpr h4, Bool.or_false] at hc
        exact hc
      by_cases h5 : (c :: r).length > 8
      · have A : nameOk (c :: r) = false := by
          unfold nameOk
          rw [decide_eq_false (show ¬ (c :: r).length ≤ 8 by omega)]
          simp
        have B : isF ((c :: r).headD 0) = true ∨ (c :: r).length > 8 := Or.inr h5
        rw [A, if_neg Bool.false_ne_true, if_pos B]
      · have A : nameOk (c :: r) = true := by
          unfold nameOk
          rw [decide_eq_true (show (c :: r).length ≤ 8 by omega), decide_eq_true (show 1 ≤ (c :: r).length by simp), show isL ((c :: r).headD 0) = true from lc, decide_eq_false h1, hn] <;> rfl
        have B : ¬ (isF ((c :: r).headD 0) = true ∨ (c :: r).length > 8) := fun z => Or.elim z h4 h5
        rw [A, if_pos rfl, if_neg B]
theorem one_by {c : Nat} (h : isNS c = false) : wordBy [c] = if c ∈ marks1 then some (.mark [c]) else none := by
  have t1 : [c] ∉ toldL := fun z => by
    have : ∀ m ∈ toldL, m.length ≠ 1 := by decide
    exact this [c] z rfl
  unfold wordBy
  rw [if_neg t1]
  have mm : [c] ∈ marksL ↔ c ∈ marks1 := by
    unfold marksL marks1
    simp
  have l0 : isL c = false := by
    unfold isNS at h
    exact (Bool.or_eq_false_iff.mp h).1
  have f0 : isF c = false := by
    unfold isNS at h
    exact (Bool.or_eq_false_iff.mp h).2
  by_cases h2 : c ∈ marks1
  · rw [if_pos (mm.mpr h2), if_pos h2]
  · rw [if_neg (fun z => h2 (mm.mp z)), if_neg h2]
    have n1 : nameOk [c] = false := by
      unfold nameOk
      rw [show isL ([c].headD 0) = false from l0]
      simp
    have n2 : numOk [c] = false := by
      unfold numOk
      rw [show [c].all isF = false by simp [f0], Bool.and_false]
    rw [n1, n2]
    simp
/-- a text is one name -/
theorem wlen : ∀ (n : Nat) (l : List Nat), l.length ≤ n → ∀ ws a, words l = some ws → Wd.name a ∈ ws → a.length ≤ l.length
  | n, [], _, ws, a, h, ha => by
    rw [words_stop rfl] at h
    cases h
    simp at ha
  | 0, c :: r, h, _, _, _, _ => by simp at h
  | n + 1, c :: r, hl, ws, a, h, ha => by
    cases hs : step (c :: r) with
    | stop =>
      rw [words_stop hs] at h
      cases h
      simp at ha
    | bad =>
      rw [words_bad hs] at h
      cases h
    | skip t =>
      rw [words_skip hs] at h
      have := step_less _ _ (.inl hs)
      have := wlen n t (by simp at *; omega) ws a h ha
      omega
    | word w t =>
      rw [words_word hs] at h
      have ls := step_less _ _ (.inr ⟨w, hs⟩)
      cases ht : words t with
      | none =>
        rw [ht] at h
        cases h
      | some us =>
        rw [ht] at h
        cases h
        rcases List.mem_cons.mp ha with e | e
        · subst e
          rw [step] at hs
          by_cases h1 : c = 35
          · rw [if_pos h1] at hs
            cases hs
          rw [if_neg h1] at hs
          by_cases h2 : c = 32
          · rw [if_pos h2] at hs
            cases hs
          rw [if_neg h2] at hs
          by_cases h3 : (c :: r).takeWhile isNS ≠ []
          · rw [if_pos h3] at hs
            cases hw : runW ((c :: r).takeWhile isNS) with
            | none =>
              rw [hw] at hs
              cases hs
            | some w =>
              rw [hw] at hs
              cases hs
              have : a = (c :: r).takeWhile isNS := by
                unfold runW at hw
                split at hw
                · cases hw
                · split at hw
                  · split at hw <;> cases hw
                  · split at hw
                    · cases hw
                    · cases hw
                      rfl
              rw [this]
              exact tw_le _
          rw [if_neg h3] at hs
          split at hs
          · cases hs
          · split at hs <;> cases hs
        · have := wlen n t (by simp at *; omega) us a ht e
          omega
theorem tw_all {l : List Nat} (h : l.all isNS = true) : l.takeWhile isNS = l := by
  induction l with
  | nil => rfl
  | cons c r ih =>
    have h' := Bool.and_eq_true_iff.mp (show (isNS c && r.all isNS) = true from h)
    rw [List.takeWhile_cons, if_pos h'.1, ih h'.2]
theorem tw_ns (l : List Nat) : (l.takeWhile isNS).all isNS = true := by
  induction l with
  | nil => rfl
  | cons c r ih =>
    rw [List.takeWhile_cons]
    split
    · rename_i h
      show (isNS c && (r.takeWhile isNS).all isNS) = true
      rw [h, ih] <;> rfl
    · rfl
theorem name_iff (l : List Nat) : words l = some [.name l] ↔ nameOk l = true := by
  constructor
  · intro h
    cases l with
    | nil =>
      rw [words_stop rfl] at h
      cases h
    | cons c r =>
      cases hs : step (c :: r) with
      | stop =>
        rw [words_stop hs] at h
        cases h
      | bad =>
        rw [words_bad hs] at h
        cases h
      | skip t =>
        rw [words_skip hs] at h
        have l1 := step_less _ _ (.inl hs)
        have l2 := wlen t.length t (Nat.le_refl _) _ (c :: r) h (by simp)
        omega
      | word w t =>
        rw [words_word hs] at h
        have l1 := step_less _ _ (.inr ⟨w, hs⟩)
        cases ht : words t with
        | none =>
          rw [ht] at h
          cases h
        | some us =>
          rw [ht] at h
          have h := Option.some.inj h
          injection h with h1 h2
          subst h1
          rw [step] at hs
          by_cases h1 : c = 35
          · rw [if_pos h1] at hs
            cases hs
          rw [if_neg h1] at hs
          by_cases h2 : c = 32
          · rw [if_pos h2] at hs
            cases hs
          rw [if_neg h2] at hs
          by_cases h3 : (c :: r).takeWhile isNS ≠ []
          · rw [if_pos h3] at hs
            cases hw : runW ((c :: r).takeWhile isNS) with
            | none =>
              rw [hw] at hs
              cases hs
            | some w =>
              rw [hw] at hs
              have hs1 : w = .name (c :: r) := by injection hs
              subst hs1
              have hr := run_by h3 (tw_ns _)
              rw [hw] at hr
              unfold wordBy at hr
              split at hr
              · cases hr
              · split at hr
                · cases hr
                · split at hr
                  · rename_i hn
                    have e : (c :: r).takeWhile isNS = c :: r := by
                      have := Option.some.inj hr
                      injection this
                    rw [e] at hn
                    exact hn
                  · split at hr <;> cases hr
          rw [if_neg h3] at hs
          split at hs
          · cases hs
          · split at hs <;> cases hs
  · intro h
    have hk := h
    unfold nameOk at hk
    simp only [Bool.and_eq_true, decide_eq_true_eq, Bool.not_eq_true', decide_eq_false_iff_not] at hk
    obtain ⟨⟨⟨⟨h1, h2⟩, h3⟩, h4⟩, h5⟩ := hk
    cases l with
    | nil => simp at h1
    | cons c r =>
      have h3' : isL c = true := h3
      have c1 : c ≠ 35 ∧ c ≠ 32 := by
        unfold isL at h3'
        simp at h3'
        omega
      have tw := tw_all h5
      have hw : runW (c :: r) = some (.name (c :: r)) := by
        rw [← run_by (by simp) h5]
        unfold wordBy
        rw [if_neg h4, if_neg (ns_not_mark (by simp) h5), if_pos h]
      have s1 : step (c :: r) = .word (.name (c :: r)) [] := by
        rw [step, if_neg c1.1, if_neg c1.2, tw, if_pos (by simp), hw]
        simp
      rw [words_word s1, words_stop (l := []) rfl] <;> rfl
end M03

set_option linter.all false
set_option maxHeartbeats 1000000
namespace M01
def bitsN : Nat → Nat → List Nat
  | 0, _ => []
  | n + 1, w => (w % 2) :: bitsN n (w / 2)
def numN : List Nat → Nat
  | [] => 0
  | b :: r => b + 2 * numN r
theorem pow_s (n : Nat) : 2 ^ (n + 1) = 2 * 2 ^ n := by rw [Nat.pow_succ, Nat.mul_comm]
theorem mod_s (x n : Nat) : x % 2 ^ (n + 1) = x % 2 + 2 * (x / 2 % 2 ^ n) := by rw [pow_s, Nat.mod_mul]
theorem bits_len : ∀ n w, (bitsN n w).length = n
  | 0, _ => rfl
  | n + 1, w => by rw [bitsN, List.length_cons, bits_len n]
theorem num_bits : ∀ n w, numN (bitsN n w) = w % 2 ^ n
  | 0, w => by rw [bitsN, numN, Nat.pow_zero, Nat.mod_one]
  | n + 1, w => by rw [bitsN, numN, num_bits n, mod_s]
theorem bits_lt : ∀ n w, ∀ b ∈ bitsN n w, b < 2
  | 0, _, b, h => by simp [bitsN] at h
  | n + 1, w, b, h => by
    rw [bitsN, List.mem_cons] at h
    rcases h with rfl | h
    · exact Nat.mod_lt _ (by decide)
    · exact bits_lt n _ b h
theorem num_app : ∀ (xs ys : List Nat), numN (xs ++ ys) = numN xs + 2 ^ xs.length * numN ys
  | [], ys => by simp [numN]
  | x :: xs, ys => by
    rw [List.cons_append, numN, numN, num_app xs, List.length_cons, pow_s, Nat.mul_add, Nat.mul_assoc, Nat.add_assoc]
theorem bits_inj {n a b : Nat} (ha : a < 2 ^ n) (hb : b < 2 ^ n) (h : bitsN n a = bitsN n b) : a = b := by
  have e := congrArg numN h
  rw [num_bits, num_bits, Nat.mod_eq_of_lt ha, Nat.mod_eq_of_lt hb] at e
  exact e
/-- sign by sign -/
theorem zip_num (f : Nat → Nat → Nat) (g : Nat → Nat → Nat) (h2 : ∀ a b, g a b / 2 = g (a / 2) (b / 2)) (h1 : ∀ a b, g a b % 2 = f (a % 2) (b % 2)) :
    ∀ n a b, numN (List.zipWith f (bitsN n a) (bitsN n b)) = g a b % 2 ^ n
  | 0, a, b => by rw [bitsN, bitsN, List.zipWith_nil_left, numN, Nat.pow_zero, Nat.mod_one]
  | n + 1, a, b => by rw [bitsN, bitsN, List.zipWith_cons_cons, numN, zip_num f g h2 h1 n, mod_s, h2, h1]
theorem lt2 {f : Nat → Nat → Nat} {g : Nat → Nat → Nat} (h : ∀ i, i < 2 → ∀ j, j < 2 → g i j = f i j) (a b : Nat) : g (a % 2) (b % 2) = f (a % 2) (b % 2) := h _ (Nat.mod_lt _ (by decide)) _ (Nat.mod_lt _ (by decide))
theorem and2 (a b : Nat) : (a &&& b) % 2 = a % 2 * (b % 2) := by
  have e : (a &&& b) % 2 = (a % 2 &&& b % 2) := by
    have := Nat.and_mod_two_pow (a := a) (b := b) (n := 1)
    simpa using this
  rw [e]
  exact lt2 (f := fun i j => i * j) (g := fun i j => i &&& j) (by decide) a b
theorem or2 (a b : Nat) : (a ||| b) % 2 = max (a % 2) (b % 2) := by
  have e : (a ||| b) % 2 = (a % 2 ||| b % 2) := by
    have := Nat.or_mod_two_pow (a := a) (b := b) (n := 1)
    simpa using this
  rw [e]
  exact lt2 (f := fun i j => max i j) (g := fun i j => i ||| j) (by decide) a b
theorem xor2 (a b : Nat) : (a ^^^ b) % 2 = (a % 2 + b % 2) % 2 := by
  have e : (a ^^^ b) % 2 = (a % 2 ^^^ b % 2) := by
    have := Nat.xor_mod_two_pow (a := a) (b := b) (n := 1)
    simpa using this
  rw [e]
  exact lt2 (f := fun i j => (i + j) % 2) (g := fun i j => i ^^^ j) (by decide) a b
theorem num_and (n a b : Nat) : numN (List.zipWith (fun i j => i * j) (bitsN n a) (bitsN n b)) = (a &&& b) % 2 ^ n := zip_num _ (fun a b => a &&& b) (fun a b => Nat.and_div_two) and2 n a b
theorem num_or (n a b : Nat) : numN (List.zipWith (fun i j => max i j) (bitsN n a) (bitsN n b)) = (a ||| b) % 2 ^ n := zip_num _ (fun a b => a ||| b) (fun a b => Nat.or_div_two) or2 n a b
theorem num_xor (n a b : Nat) : numN (List.zipWith (fun i j => (i + j) % 2) (bitsN n a) (bitsN n b)) = (a ^^^ b) % 2 ^ n := zip_num _ (fun a b => a ^^^ b) (fun a b => Nat.xor_div_two) xor2 n a b
/-- what goes over -/
def sumN : Nat → List Nat → List Nat → List Nat
  | c, x :: xs, y :: ys => ((x + y + c) % 2) :: sumN ((x + y + c) / 2) xs ys
  | _, _, _ => []
theorem num_sum : ∀ n a b c, numN (sumN c (bitsN n a) (bitsN n b)) = (a + b + c) % 2 ^ n
  | 0, a, b, c => by rw [bitsN, bitsN, sumN, numN, Nat.pow_zero, Nat.mod_one] <;> simp
  | n + 1, a, b, c => by
    rw [bitsN, bitsN, sumN, numN, num_sum n, mod_s]
    have e1 : (a + b + c) % 2 = (a % 2 + b % 2 + c) % 2 := by omega
    have e2 : (a + b + c) / 2 = a / 2 + b / 2 + (a % 2 + b % 2 + c) / 2 := by omega
    rw [e1, e2]
theorem flip_bits : ∀ n b, (bitsN n b).map (fun x => 1 - x) = bitsN n (2 ^ n - 1 - b % 2 ^ n)
  | 0, _ => rfl
  | n + 1, b => by
    have h := mod_s b n
    have p := pow_s n
    have q : b / 2 % 2 ^ n < 2 ^ n := Nat.mod_lt _ (Nat.two_pow_pos n)
    rw [bitsN, bitsN, List.map_cons, flip_bits n]
    have e1 : 1 - b % 2 = (2 ^ (n + 1) - 1 - b % 2 ^ (n + 1)) % 2 := by omega
    have e2 : 2 ^ n - 1 - b / 2 % 2 ^ n = (2 ^ (n + 1) - 1 - b % 2 ^ (n + 1)) / 2 := by omega
    rw [e1, e2]
theorem num_sub (n a b : Nat) (hb : b < 2 ^ n) : numN (sumN 1 (bitsN n a) ((bitsN n b).map fun x => 1 - x)) = (a + (2 ^ n - b)) % 2 ^ n := by
  rw [flip_bits, num_sum, Nat.mod_eq_of_lt hb]
  congr 1
  omega
theorem num_flip (n a : Nat) (ha : a < 2 ^ n) : numN ((bitsN n a).map fun x => 1 - x) = 2 ^ n - 1 - a := by
  rw [flip_bits, num_bits, Nat.mod_eq_of_lt ha, Nat.mod_eq_of_lt (by omega)]
/-- the top bit -/
theorem bits_top : ∀ n w, bitsN (n + 1) w = bitsN n w ++ [w / 2 ^ n % 2]
  | 0, w => by simp [bitsN]
  | n + 1, w => by
    rw [bitsN, bits_top n, bitsN, List.cons_append, Nat.div_div_eq_div_mul, pow_s]
def fd : List (Nat × Nat) → Nat
  | [] => 0
  | p :: t => if p.1 = p.2 then fd t else if p.1 < p.2 then 1 else 0
theorem fd_bits : ∀ n a b, fd (List.zip (bitsN n a).reverse (bitsN n b).reverse) = if a % 2 ^ n < b % 2 ^ n then 1 else 0
  | 0, a, b => by simp [bitsN, fd, Nat.mod_one]
  | n + 1, a, b => by
    rw [bits_top, bits_top, List.reverse_append, List.reverse_append]
    show fd ((a / 2 ^ n % 2, b / 2 ^ n % 2) :: List.zip (bitsN n a).reverse (bitsN n b).reverse) = _
    have ea : a % 2 ^ (n + 1) = a % 2 ^ n + 2 ^ n * (a / 2 ^ n % 2) := by rw [Nat.pow_succ, Nat.mod_mul]
    have eb : b % 2 ^ (n + 1) = b % 2 ^ n + 2 ^ n * (b / 2 ^ n % 2) := by rw [Nat.pow_succ, Nat.mod_mul]
    have la : a % 2 ^ n < 2 ^ n := Nat.mod_lt _ (Nat.two_pow_pos n)
    have lb : b % 2 ^ n < 2 ^ n := Nat.mod_lt _ (Nat.two_pow_pos n)
    have ta := Nat.mod_two_eq_zero_or_one (a / 2 ^ n)
    have tb := Nat.mod_two_eq_zero_or_one (b / 2 ^ n)
    rw [fd, fd_bits n, ea, eb]
    rcases ta with ta | ta <;> rcases tb with tb | tb <;> rw [ta, tb] <;> simp
    · omega
    · omega
theorem bits_drop : ∀ k n w, (bitsN n w).drop k = bitsN (n - k) (w / 2 ^ k)
  | 0, n, w => by simp
  | k + 1, 0, w => by simp [bitsN]
  | k + 1, n + 1, w => by
    rw [bitsN, List.drop_succ_cons, bits_drop k n, Nat.div_div_eq_div_mul, pow_s, Nat.add_sub_add_right]
theorem bits_take : ∀ k n w, (bitsN n w).take k = bitsN (min k n) w
  | 0, n, w => by simp [bitsN]
  | k + 1, 0, w => by simp [bitsN]
  | k + 1, n + 1, w => by
    rw [bitsN, List.take_succ_cons, bits_take k n, Nat.add_min_add_right, bitsN]
theorem num_cut (n a low many : Nat) (ha : a < 2 ^ n) : numN (((bitsN n a).drop low).take many) = a / 2 ^ low % 2 ^ many := by
  rw [bits_drop, bits_take, num_bits]
  by_cases h : many ≤ n - low
  · rw [Nat.min_eq_left h]
  · have h2 : n - low ≤ many := by omega
    rw [Nat.min_eq_right h2]
    have l1 : a / 2 ^ low < 2 ^ (n - low) := by
      by_cases hl : low ≤ n
      · rw [Nat.div_lt_iff_lt_mul (Nat.two_pow_pos low), ← Nat.pow_add]
        rw [show n - low + low = n by omega]
        exact ha
      · have : a < 2 ^ low := Nat.lt_of_lt_of_le ha (Nat.pow_le_pow_right (by decide) (by omega))
        rw [Nat.div_eq_of_lt this]
        exact Nat.two_pow_pos _
    rw [Nat.mod_eq_of_lt l1, Nat.mod_eq_of_lt (Nat.lt_of_lt_of_le l1 (Nat.pow_le_pow_right (by decide) h2))]
theorem num_ones (n : Nat) : numN (List.replicate n 1) = 2 ^ n - 1 := by
  induction n with
  | zero => rfl
  | succ n ih =>
    have p := Nat.two_pow_pos n
    rw [List.replicate_succ, numN, ih, pow_s]
    omega
end M01

set_option Elab.async false
set_option linter.all false
set_option maxRecDepth 100000
set_option maxHeartbeats 4000000
namespace K22
open PySem PySem.Spec PyProof.Rows L2 Z
open Evl (Ex ex_l ex_t sq_of st_of fresh_back RetL RetV)
local macro_rules | `(tactic| walk_at "zc") => `(tactic| first
  | (show (0 : Int) < _; omega)
  | exact ⟨by decide, by decide⟩
  | exact Or.inl ⟨by decide, by decide⟩
  | exact Or.inr ⟨by decide, by decide⟩
  | exact ⟨by decide, by decide, by decide⟩
  | exact Or.inl ⟨by omega, by omega⟩
  | exact Or.inr ⟨by omega, by omega⟩)
local macro_rules | `(tactic| walk_at "sq") => `(tactic| first
  | assumption
  | exact sq_of (by assumption)
  | exact sq_of upd_same
  | exact st_of (by assumption)
  | exact st_of upd_same
  | (refine ex_l (by assumption) ?_; walk_at "sq")
  | (refine ex_t (by assumption) ?_; walk_at "sq")
  | (refine ex_l (Ex.new (by assumption)) ?_; walk_at "sq")
  | (refine ex_t (Ex.new (by assumption)) ?_; walk_at "sq"))
local macro_rules | `(tactic| walk_at "ex") => `(tactic| first
  | exact Ex.refl _
  | assumption
  | (refine Ex.trans ?_ (Ex.new (by assumption)); walk_at "ex")
  | ((refine' Ex.trans ?_ ?zx); (case zx => assumption); walk_at "ex"))
local macro_rules | `(tactic| walk_at "z1") => `(tactic| first
  | with_reducible exact trivial
  | with_reducible refine z_seq ?_
  | with_reducible refine z_asg ?_
  | with_reducible refine z_ret ?_
  | with_reducible refine z_ifs ?_
  | with_reducible refine z_op ?_
  | with_reducible refine z_c ?_
  | ((with_reducible refine' z_var ?zh ?_); (case zh => exact rfl))
  | with_reducible refine z_i0 ?_
  | with_reducible refine z_gname ?_
  | ((with_reducible refine z_i ?zh ?_); (case zh => walk_at "zc"))
  | with_reducible refine z_next ?_
  | with_reducible refine z_test ?_
  | with_reducible refine z_tB ?_
  | with_reducible refine z_bl ?_
  | ((with_reducible refine z_eq ?zh ?_); (case zh => rfl))
  | ((with_reducible refine z_ne ?zh ?_); (case zh => rfl))
  | with_reducible refine z_cons ?_
  | with_reducible refine z_nil ?_
  | with_reducible refine z_call ?_
  | with_reducible refine z_cb ?_
  | with_reducible refine z_lst ?_
  | with_reducible refine z_tup ?_
  | with_reducible refine z_un ?_
  | with_reducible refine z_u ?_
  | with_reducible refine z_if ?_
  | with_reducible refine z_andT ?_
  | with_reducible refine z_orT ?_
  | with_reducible refine z_notT ?_
  | with_reducible refine z_trub ?_
  | with_reducible refine z_trui ?_
  | with_reducible refine z_trun ?_
  | with_reducible refine z_tru ?_
  | with_reducible refine z_and ?_
  | with_reducible refine z_or ?_
  | with_reducible refine z_not ?_
  | with_reducible refine z_yes ?_
  | with_reducible refine z_isN ?_
  | with_reducible refine z_notN ?_
  | with_reducible refine z_chain ?_
  | with_reducible refine z_int1 ?_
  | with_reducible refine z_intb ?_
  | with_reducible refine z_max2 ?_
  | with_reducible refine z_min2 ?_
  | with_reducible refine z_revL ?_
  | with_reducible refine z_nopart ?_
  | with_reducible refine z_part ?_
  | with_reducible refine z_part1 ?_
  | with_reducible refine z_sl ?_
  | with_reducible refine z_drop ?_
  | with_reducible refine z_bm ?_
  | with_reducible refine z_bm0 ?_
  | with_reducible refine z_tys ?_
  | with_reducible refine z_brk ?_
  | with_reducible refine z_cont ?_
  | with_reducible refine z_retN ?_
  | with_reducible refine z_fl ?_
  | with_reducible refine z_ft ?_
  | with_reducible refine z_fs ?_
  | with_reducible refine z_fr1 ?_
  | with_reducible refine z_fr2 ?_
  | with_reducible refine z_fz ?_
  | with_reducible refine z_fe ?_
  | with_reducible refine z_cl ?_
  | with_reducible refine z_cs ?_
  | with_reducible refine z_cr1 ?_
  | with_reducible refine z_crv ?_
  | with_reducible refine z_isbl ?_
  | with_reducible refine z_notbl ?_
  | with_reducible refine ite_t ?_
  | with_reducible refine ite_f ?_
  | ((with_reducible refine' z_aug ?zh ?_); (case zh => exact rfl))
  | with_reducible refine z_ipi ?_)
local macro_rules | `(tactic| walk_at "zz") => `(tactic| repeat walk_at "z1")
open ZW M01
local macro_rules | `(tactic| walk_at "z1") => `(tactic| first
  | with_reducible refine z_fld ?_
  | with_reducible refine z_sfld ?_
  | with_reducible refine z_meth ?_
  | with_reducible refine z_make ?_
  | with_reducible refine z_par ?_
  | with_reducible refine z_gsub ?_
  | with_reducible refine z_dget ?_
  | with_reducible refine z_dget2 ?_
  | with_reducible refine z_din ?_
  | with_reducible refine z_dnotin ?_
  | with_reducible refine z_dput ?_
  | with_reducible refine z_ce ?_
  | with_reducible refine z_ces ?_
  | with_reducible refine z_fes ?_
  | with_reducible refine z_fzw ?_
  | with_reducible refine z_ct ?_)

def tab_ASKED_AT : List (Str × TV) := [("in", .tup []), ("rest", .tup []), ("number", .tup []), ("not", .tup [.int 2]), ("two", .tup [.int 3, .int 4]), ("pick", .tup [.int 2, .int 3, .int 4]), ("cut", .tup [.int 2]), ("join", .tup [.int 2, .int 3]), ("fill", .tup [.int 2]), ("table", .tup [.int 3]), ("memory", .tup [.int 3])]
def mixN (n k : Int) : Int := (n + 7919 * k * k + 31 * k + 1) * 48271 % 2147483647 * 69621 % 2147483629 / 64
theorem mixN_b (n k : Int) : 0 ≤ mixN n k ∧ mixN n k < 33554432 := by
  unfold mixN
  omega
def cellB (b k : Int) : Int := (b + 7919 * k * k + 31 * k) * 48271 % 2147483647 * 69621 % 2147483629 / 64
def cellN (ns : List Int) (k : Int) : Int := cellB (if 0 < ns.length then ns.getD (k % ns.length).toNat 0 % 2147483647 else 17) k
theorem cellN_b (ns : List Int) (k : Int) : 0 ≤ cellN ns k ∧ cellN ns k < 33554432 := by
  unfold cellN cellB
  omega
def sN (n : Int) : Nat → Int
  | 0 => 0
  | i + 1 => Builtin.bitOr (sN n i * 2 ^ (25 : Int).toNat) (mixN n (i : Int))
def wordN (n : Int) (w : Nat) : Int := match (n % 8).toNat with
  | 0 => 0
  | 1 => 2 ^ w - 1
  | 3 => 1
  | 5 => 2 ^ w - 1 - 1
  | 7 => sN n 3 % 4 % 2 ^ w
  | _ => sN n 3 % 2 ^ w
/-- a list that draws: the script, how many were drawn -/
def Dr (K : PySem.W.Frag) (H : Hp) (d a : Addr) (ns : List Int) (k : Nat) : Prop := H d = some (.lst [.ref a, .int (k : Int)]) ∧ SqL K H a (ns.map V.int)
/-- a row of a net -/
inductive Rw where
  | num (w n : Nat)
  | inn (w k : Nat)
  | rst (w k : Nat)
  | nt (w a : Nat)
  | two (w s a b : Nat)
  | pick (w a b c : Nat)
  | cut (w a low : Nat)
  | join (w a b : Nat)
  | fill (w a : Nat)
  | tab (w k a : Nat)
  | mem (w k a : Nat)
abbrev vi (n : Nat) : V := .int (n : Int)
def sgs : List Str := ["&", "|", "^", "+", "-", "==", "<"]
def sg7 (s : Nat) : Str := match s with
  | 0 => "&"
  | 1 => "|"
  | 2 => "^"
  | 3 => "+"
  | 4 => "-"
  | 5 => "=="
  | _ => "<"
def Rw.kind : Rw → Str
  | .num .. => "number"
  | .inn .. => "in"
  | .rst .. => "rest"
  | .nt .. => "not"
  | .two .. => "two"
  | .pick .. => "pick"
  | .cut .. => "cut"
  | .join .. => "join"
  | .fill .. => "fill"
  | .tab .. => "table"
  | .mem .. => "memory"
def Rw.w : Rw → Nat
  | .num w _ | .inn w _ | .rst w _ | .nt w _ | .two w .. | .pick w .. | .cut w .. | .join w .. | .fill w _ | .tab w .. | .mem w .. => w
/-- what stands behind kind and width -/
def Rw.tl : Rw → List V
  | .num _ n => [vi n]
  | .inn _ k => [vi k]
  | .rst _ k => [vi k]
  | .nt _ a => [vi a]
  | .two _ s a b => [.str (sg7 s), vi a, vi b]
  | .pick _ a b c => [vi a, vi b, vi c]
  | .cut _ a l => [vi a, vi l]
  | .join _ a b => [vi a, vi b]
  | .fill _ a => [vi a]
  | .tab _ k a => [vi k, vi a]
  | .mem _ k a => [vi k, vi a]
def Rw.vs (r : Rw) : List V := .str r.kind :: vi r.w :: r.tl
/-- the rows that it asks, and where they stand in it -/
def Rw.asks : Rw → List Nat
  | .num .. | .inn .. | .rst .. => []
  | .nt _ a => [a]
  | .two _ _ a b => [a, b]
  | .pick _ a b c => [a, b, c]
  | .cut _ a _ => [a]
  | .join _ a b => [a, b]
  | .fill _ a => [a]
  | .tab _ _ a => [a]
  | .mem _ _ a => [a]
def Rw.at_ : Rw → List Nat
  | .num .. | .inn .. | .rst .. => []
  | .nt .. => [2]
  | .two .. => [3, 4]
  | .pick .. => [2, 3, 4]
  | .cut .. => [2]
  | .join .. => [2, 3]
  | .fill .. => [2]
  | .tab .. => [3]
  | .mem .. => [3]
/-- what a net is drawn of; tables by the addresses of their numbers -/
structure Wo where
  wide : List Nat
  ins : List (Str × Nat)
  rests : List (Str × Nat × Nat)
  tabs : List (Nat × Addr × List Nat)
  mems : List (Str × Nat × Nat)
def wAt (rs : List Rw) (a : Nat) : Nat := ((rs.map Rw.w)[a]?).getD 0
/-- a row that may stand behind these -/
def Rw.ok (W : Wo) (rs : List Rw) : Rw → Prop
  | .num w n => (1 ≤ w ∧ w ≤ 64) ∧ n < 2 ^ w
  | .inn w k => (1 ≤ w ∧ w ≤ 64) ∧ (W.ins.map (·.2))[k]? = some w
  | .rst w k => (1 ≤ w ∧ w ≤ 64) ∧ (W.rests.map (·.2.1))[k]? = some w
  | .nt w a => (1 ≤ w ∧ w ≤ 64) ∧ a < rs.length ∧ wAt rs a = w
  | .two w s a b => (1 ≤ w ∧ w ≤ 64) ∧ s < 7 ∧ (a < rs.length ∧ b < rs.length) ∧ wAt rs b = wAt rs a ∧ w = if 5 ≤ s then 1 else wAt rs a
  | .pick w a b c => (1 ≤ w ∧ w ≤ 64) ∧ (a < rs.length ∧ b < rs.length ∧ c < rs.length) ∧ wAt rs a = 1 ∧ wAt rs b = w ∧ wAt rs c = w
  | .cut w a l => (1 ≤ w ∧ w ≤ 64) ∧ a < rs.length ∧ l + w ≤ wAt rs a
  | .join w a b => (1 ≤ w ∧ w ≤ 64) ∧ (a < rs.length ∧ b < rs.length) ∧ w = wAt rs a + wAt rs b
  | .fill w a => (1 ≤ w ∧ w ≤ 64) ∧ a < rs.length ∧ wAt rs a ≤ w
  | .tab w k a => (1 ≤ w ∧ w ≤ 64) ∧ a < rs.length ∧ (W.tabs.map (·.1))[k]? = some w
  | .mem w k a => (1 ≤ w ∧ w ≤ 64) ∧ a < rs.length ∧ (W.mems.map (·.2.1))[k]? = some w
/-- each row goes behind those ahead of it; there are rows of the widths that are asked -/
structure Good (W : Wo) (rs : List Rw) : Prop where
  ok : ∀ (i : Nat) r, rs[i]? = some r → r.ok W (rs.take i)
  one : ∃ i, i < rs.length ∧ wAt rs i = 1
  wide : ∀ w ∈ W.wide, ∃ i, i < rs.length ∧ wAt rs i = w
structure Wo.ok (W : Wo) : Prop where
  wide : W.wide.length = 3 ∧ ∀ w ∈ W.wide, 1 ≤ w ∧ w ≤ 64
  ins : W.ins.length ≤ 3 ∧ ∀ p ∈ W.ins, okT p.1 30 ∧ p.2 ∈ W.wide
  rests : W.rests.length ≤ 3 ∧ ∀ p ∈ W.rests, okT p.1 30 ∧ p.2.1 ∈ W.wide ∧ p.2.2 < 2 ^ p.2.1
  tabs : W.tabs.length ≤ 2 ∧ ∀ p ∈ W.tabs, p.1 ∈ W.wide ∧ (1 ≤ p.2.2.length ∧ p.2.2.length ≤ 32) ∧ ∀ n ∈ p.2.2, n < 2 ^ p.1
  mems : W.mems.length ≤ 2 ∧ ∀ p ∈ W.mems, okT p.1 30 ∧ p.2.1 ∈ W.wide ∧ 1 ≤ p.2.2 ∧ p.2.2 ≤ 32
/-- things that are tuples of these -/
def ItsAt (H : Hp) (xs : List V) (ys : List (List V)) : Prop := xs.length = ys.length ∧ ∀ (j : Nat) x y, xs[j]? = some x → ys[j]? = some y → ∃ t, x = .ref t ∧ H t = some (.tup y)
def Wo.its (W : Wo) (rs : List Rw) : Nat → List (List V)
  | 0 => rs.map Rw.vs
  | 1 => W.ins.map fun p => [.str p.1, vi p.2]
  | 2 => W.rests.map fun p => [.str p.1, vi p.2.1, vi p.2.2]
  | 3 => W.tabs.map fun p => [vi p.1, .ref p.2.1]
  | _ => W.mems.map fun p => [.str p.1, vi p.2.1, vi p.2.2]
structure WA (H : Hp) (wd pw : Addr) (A : Nat → Addr) (W : Wo) (rs : List Rw) : Prop where
  d : H wd = some (.dK [(Sum.inr "rows", .ref (A 0)), (Sum.inr "wide", .ref pw), (Sum.inr "ins", .ref (A 1)), (Sum.inr "rests", .ref (A 2)), (Sum.inr "tables", .ref (A 3)), (Sum.inr "memories", .ref (A 4))])
  w : H pw = some (.lst (W.wide.map vi))
  l : ∀ j, j < 5 → ∃ xs, H (A j) = some (.lst xs) ∧ ItsAt H xs (W.its rs j)
  t : ∀ p ∈ W.tabs, H p.2.1 = some (.tup (p.2.2.map vi))
  inj : ∀ i j, i < 5 → j < 5 → A i = A j → i = j
  pa : ∀ j, j < 5 → A j ≠ pw
/-- the script is no list that is written, or stands in the written part -/
def Ap (K : PySem.W.Frag) (a : Addr) (ns : List Int) (B : List Addr) : Prop := a ∉ B ∨ ∀ H, SqL K H a (ns.map V.int)
def adr (wd pw : Addr) (A : Nat → Addr) : List Addr := [wd, pw, A 0, A 1, A 2, A 3, A 4]
def sp_L_mixed : Sp := fun vs H Q _ => ∃ (n k : Int), vs = [.int n, .int k] ∧ (0 ≤ k ∧ k ≤ 100000) ∧ RetV (.int (mixN n k)) H Q
def sp_L_cell (K : PySem.W.Frag) : Sp := fun vs H Q _ => ∃ (a : Addr) (ns : List Int) (k : Int), vs = [.ref a, .int k] ∧ SqL K H a (ns.map V.int) ∧ (0 ≤ k ∧ k ≤ 100000) ∧ RetV (.int (cellN ns k)) H Q
def sp_L_names (K : PySem.W.Frag) : Sp := fun vs H Q _ => ∃ (n : Int), vs = [.int n] ∧ (0 ≤ n ∧ n < 33554432) ∧ ∀ zs : List Str, zs.length = 16 → (∀ z ∈ zs, okT z 20) → RetL (zs.map V.str) H Q
def sp_L_next (K : PySem.W.Frag) : Sp := fun vs H Q _ => ∃ (d a : Addr) (ns : List Int) (k : Nat), vs = [.ref d] ∧ Dr K H d a ns k ∧ k ≤ 90000 ∧ ∀ (i : Int) H', 0 ≤ i → i < 33554432 → Dr K H' d a ns (k + 1) → But [d] H H' → Q (.int i) H'
def sp_L_word : Sp := fun vs H Q _ => ∃ (n : Int) (w : Nat), vs = [.int n, .int (w : Int)] ∧ 0 ≤ n ∧ (1 ≤ w ∧ w ≤ 64) ∧ RetV (.int (wordN n w)) H Q
def sp_L_ends (K : PySem.W.Frag) : Sp := fun vs H Q _ => ∃ (d a l : Addr) (ns : List Int) (k : Nat) (zs : List Str), vs = [.ref d, .ref l] ∧ Dr K H d a ns k ∧ k ≤ 1000 ∧ H l = some (.lst (zs.map V.str)) ∧ zs.length = 16 ∧ (∀ z ∈ zs, okT z 20) ∧ ∀ H' wd pw A W k', Dr K H' d a ns k' → k' ≤ 2000 → But [d] H H' → WA H' wd pw A W [] → W.ok → (∀ b ∈ adr wd pw A, H b = none) → Q (.ref wd) H'
def sp_L_leaves (K : PySem.W.Frag) : Sp := fun vs H Q _ => ∃ (d a wd pw : Addr) (ns : List Int) (k : Nat) (A : Nat → Addr) (W : Wo), vs = [.ref d, .ref wd] ∧ Dr K H d a ns k ∧ k ≤ 2000 ∧ WA H wd pw A W [] ∧ W.ok ∧ d ∉ adr wd pw A ∧ Ap K a ns (adr wd pw A) ∧ ∀ H' k' rs, Dr K H' d a ns k' → k' ≤ 3000 → But [d, A 0] H H' → WA H' wd pw A W rs → Good W rs → rs.length ≤ 10 → Q .non H'
def sp_L_of_width (K : PySem.W.Frag) : Sp := fun vs H Q _ => ∃ (p : Addr) (xs : List V) (rs : List Rw) (w : Nat) (n : Int), vs = [.ref p, vi w, .int n] ∧ H p = some (.lst xs) ∧ ItsAt H xs (rs.map Rw.vs) ∧ (∃ i, i < rs.length ∧ wAt rs i = w) ∧ (0 ≤ n ∧ n < 33554432) ∧ rs.length ≤ 500 ∧ ∀ i : Nat, i < rs.length → wAt rs i = w → RetV (vi i) H Q
def sp_L_parted (K : PySem.W.Frag) : Sp := fun vs H Q _ => ∃ (p : Addr) (xs : List V) (W : Wo) (rs : List Rw) (one : Nat) (way m : Int), vs = [.ref p, vi one, .int way, .int m] ∧ H p = some (.lst xs) ∧ ItsAt H xs (rs.map Rw.vs) ∧ Good W rs ∧ one < rs.length ∧ (0 ≤ m ∧ m < 33554432) ∧ rs.length ≤ 500 ∧ ∀ (r : Rw) t H', r.ok W rs → Ex H H' → H' t = some (.tup r.vs) → Q (.ref t) H'
def sp_L_more (K : PySem.W.Frag) : Sp := fun vs H Q _ => ∃ (wd pw : Addr) (A : Nat → Addr) (W : Wo) (rs : List Rw) (n : Int), vs = [.ref wd, .int n] ∧ WA H wd pw A W rs ∧ W.ok ∧ Good W rs ∧ (0 ≤ n ∧ n < 33554432) ∧ rs.length ≤ 500 ∧ ∀ (r : Rw) t H', r.ok W rs → Ex H H' → H' t = some (.tup r.vs) → Q (.ref t) H'
/-- a net as it was drawn: its rows and its tables -/
def NetAt (H : Hp) (p : Addr) (W : Wo) (rs : List Rw) : Prop := ∃ (v0 v2 v3 v5 : V) (pr pt : Addr) (xs : List V), H p = some (.tup [v0, .ref pr, v2, v3, .ref pt, v5]) ∧ H pr = some (.tup xs) ∧ ItsAt H xs (rs.map Rw.vs) ∧ H pt = some (.tup (W.tabs.map fun q => .ref q.2.1)) ∧ ∀ q ∈ W.tabs, H q.2.1 = some (.tup (q.2.2.map vi))
def sp_L_net (K : PySem.W.Frag) : Sp := fun vs H Q _ => ∃ (a : Addr) (ns : List Int), vs = [.ref a] ∧ SqL K H a (ns.map V.int) ∧ ns.length ≤ 63 ∧ ∀ H' p W rs, Ex H H' → NetAt H' p W rs → Good W rs → W.ok → rs.length ≤ 100 → Q (.ref p) H'
def sp_top_of : Sp := fun vs H Q _ => ∃ n : Nat, vs = [.int (n : Int)] ∧ n ≤ 64 ∧ RetV (.int ((2 ^ n - 1 : Nat) : Int)) H Q
def sp_turned : Sp := fun vs H Q _ => ∃ n x : Nat, vs = [.int (x : Int), .int (n : Int)] ∧ n ≤ 64 ∧ x < 2 ^ n ∧ RetV (.int ((2 ^ n - 1 - x : Nat) : Int)) H Q
def sp_cut_word : Sp := fun vs H Q _ => ∃ x low many : Nat, vs = [.int (x : Int), .int (low : Int), .int (many : Int)] ∧ low ≤ 63 ∧ many ≤ 64 ∧ RetV (.int ((x / 2 ^ low % 2 ^ many : Nat) : Int)) H Q
def sp_joined_words : Sp := fun vs H Q _ => ∃ h l n : Nat, vs = [.int (h : Int), .int (l : Int), .int (n : Int)] ∧ n ≤ 64 ∧ l < 2 ^ n ∧ h < 2 ^ 64 ∧ RetV (.int ((l + 2 ^ n * h : Nat) : Int)) H Q
def twoI (s n x y : Nat) : Int := match s with
  | 0 => ((x &&& y : Nat) : Int)
  | 1 => ((x ||| y : Nat) : Int)
  | 2 => ((x ^^^ y : Nat) : Int)
  | 3 => ((x : Int) + (y : Int)) % 2 ^ n
  | 4 => ((x : Int) - (y : Int)) % 2 ^ n
  | 5 => if x = y then 1 else 0
  | _ => if x < y then 1 else 0
def sp_two_words : Sp := fun vs H Q _ => ∃ (s n x y : Nat), vs = [.str (sg7 s), .int (x : Int), .int (y : Int), .int (n : Int)] ∧ s < 7 ∧ n ≤ 64 ∧ RetV (.int (twoI s n x y)) H Q
def natAt (l : List Nat) (i : Nat) : Nat := (l[i]?).getD 0
/-- words of rows, as a list or as a dict -/
def WordsAt (K : PySem.W.Frag) (H : Hp) (a : Addr) (ws : List Nat) : Prop := SqL K H a (ws.map vi) ∨ ∃ kvs : List (Key × V), H a = some (.dK kvs) ∧ ∀ i, i < ws.length → valV kvs (Sum.inl (i : Int)) = some (vi (natAt ws i))
/-- each word is one of its row's width -/
def WsOk (rs : List Rw) (ws : List Nat) : Prop := ws.length = rs.length ∧ ∀ i, i < rs.length → natAt ws i < 2 ^ wAt rs i ∧ 1 ≤ wAt rs i ∧ wAt rs i ≤ 64
def tabAt (W : Wo) (k : Nat) : List Nat := ((W.tabs.map fun q => q.2.2)[k]?).getD []
def worthN (W : Wo) (rs : List Rw) (ws : List Nat) : Rw → Int
  | .nt w a => ((2 ^ w - 1 - natAt ws a : Nat) : Int)
  | .two w s a b => twoI s w (natAt ws a) (natAt ws b)
  | .pick _ a b c => ((if natAt ws a = 1 then natAt ws b else natAt ws c : Nat) : Int)
  | .cut w a l => ((natAt ws a / 2 ^ l % 2 ^ w : Nat) : Int)
  | .join _ a b => ((natAt ws b + 2 ^ wAt rs b * natAt ws a : Nat) : Int)
  | .fill _ a => (natAt ws a : Int)
  | .tab _ k a => (natAt (tabAt W k) (natAt ws a) : Int)
  | _ => 0
/-- rows that ask others and are reckoned by words alone -/
def Rw.reck : Rw → Bool
  | .num .. | .inn .. | .rst .. | .mem .. => false
  | _ => true
def sp_cell_at (K : PySem.W.Frag) : Sp := fun vs H Q _ => ∃ (a : Addr) (b : Bool) (l : List Nat) (i : Nat), vs = [.ref a, vi i] ∧ SqS b K H a (l.map vi) ∧ RetV (vi (natAt l i)) H Q
def sp_asked_by (K : PySem.W.Frag) : Sp := fun vs H Q _ => ∃ (t : Addr) (r : Rw), vs = [.ref t] ∧ SqT K H t r.vs ∧ RetL (r.asks.map vi) H Q
/-- the same row, asking these -/
def ledV (r : Rw) (ns : List Nat) : List V := (List.zip r.at_ ns).foldl (fun l p => l.set p.1 (vi p.2)) r.vs
def sp_led_to (K : PySem.W.Frag) : Sp := fun vs H Q _ => ∃ (t c : Addr) (b : Bool) (r : Rw) (ns : List Nat), vs = [.ref t, .ref c] ∧ SqT K H t r.vs ∧ SqS b K H c (ns.map vi) ∧ ns.length = r.at_.length ∧ ∀ p H', H p = none → Ex H H' → H' p = some (.tup (ledV r ns)) → Q (.ref p) H'
def sp_worth_of (K : PySem.W.Frag) : Sp := fun vs H Q _ => ∃ (t c pr pt : Addr) (r : Rw) (ws : List Nat) (W : Wo) (rs : List Rw) (xs : List V), vs = [.ref t, .ref c, .ref pr, .ref pt] ∧ H t = some (.tup r.vs) ∧ WordsAt K H c ws ∧ H pr = some (.tup xs) ∧ ItsAt H xs (rs.map Rw.vs) ∧ H pt = some (.tup (W.tabs.map fun q => .ref q.2.1)) ∧ (∀ q ∈ W.tabs, H q.2.1 = some (.tup (q.2.2.map vi))) ∧ r.ok W rs ∧ WsOk rs ws ∧ r.reck = true ∧ rs.length ≤ 100 ∧ RetV (.int (worthN W rs ws r)) H Q
def sp_L_worth (K : PySem.W.Frag) : Sp := fun vs H Q _ => ∃ (t c pr pt : Addr) (r : Rw) (ws : List Nat) (W : Wo) (rs : List Rw) (xs : List V), vs = [.ref t, .ref c, .ref pr, .ref pt] ∧ H t = some (.tup r.vs) ∧ SqL K H c (ws.map vi) ∧ H pr = some (.tup xs) ∧ ItsAt H xs (rs.map Rw.vs) ∧ H pt = some (.tup (W.tabs.map fun q => .ref q.2.1)) ∧ (∀ q ∈ W.tabs, H q.2.1 = some (.tup (q.2.2.map vi))) ∧ r.ok W rs ∧ WsOk rs ws ∧ r.reck = true ∧ rs.length ≤ 100 ∧ RetV (.int (worthN W rs ws r)) H Q
def sp_L_asked (K : PySem.W.Frag) : Sp := fun vs H Q _ => ∃ (t : Addr) (r : Rw), vs = [.ref t] ∧ SqT K H t r.vs ∧ RetL (r.at_.map vi) H Q
def sp_L_right (K : PySem.W.Frag) : Sp := fun vs H Q _ => ∃ (v : V) (t : Addr) (r : Rw) (n : Int), vs = [v, .ref t, .int n] ∧ SqT K H t r.vs ∧ (0 ≤ n ∧ n < 33554432) ∧ RetV (.bl true) H Q
def sp_law (K : PySem.W.Frag) : Sp := fun vs H Q _ => ∃ (a : Addr) (ns : List Int), vs = [.ref a] ∧ SqL K H a (ns.map V.int) ∧ ns.length ≤ 63 ∧ RetV (.bl true) H Q

theorem len_L_mixed : ∀ vs H Q E, sp_L_mixed vs H Q E → vs.length = 2 := by
  intro vs H Q E h
  obtain ⟨_, _, rfl, _⟩ := h
  rfl
theorem len_L_names {K : PySem.W.Frag} : ∀ vs H Q E, sp_L_names K vs H Q E → vs.length = 1 := by
  intro vs H Q E h
  obtain ⟨_, rfl, _⟩ := h
  rfl
theorem len_L_cell {K : PySem.W.Frag} : ∀ vs H Q E, sp_L_cell K vs H Q E → vs.length = 2 := by
  intro vs H Q E h
  obtain ⟨_, _, _, rfl, _⟩ := h
  rfl
theorem len_L_next {K : PySem.W.Frag} : ∀ vs H Q E, sp_L_next K vs H Q E → vs.length = 1 := by
  intro vs H Q E h
  obtain ⟨_, _, _, _, rfl, _⟩ := h
  rfl
theorem len_L_word : ∀ vs H Q E, sp_L_word vs H Q E → vs.length = 2 := by
  intro vs H Q E h
  obtain ⟨_, _, rfl, _⟩ := h
  rfl
theorem len_L_ends {K : PySem.W.Frag} : ∀ vs H Q E, sp_L_ends K vs H Q E → vs.length = 2 := by
  intro vs H Q E h
  obtain ⟨_, _, _, _, _, _, rfl, _⟩ := h
  rfl
theorem len_L_leaves {K : PySem.W.Frag} : ∀ vs H Q E, sp_L_leaves K vs H Q E → vs.length = 2 := by
  intro vs H Q E h
  obtain ⟨_, _, _, _, _, _, _, _, rfl, _⟩ := h
  rfl
theorem len_L_of_width {K : PySem.W.Frag} : ∀ vs H Q E, sp_L_of_width K vs H Q E → vs.length = 3 := by
  intro vs H Q E h
  obtain ⟨_, _, _, _, _, rfl, _⟩ := h
  rfl
theorem len_L_parted {K : PySem.W.Frag} : ∀ vs H Q E, sp_L_parted K vs H Q E → vs.length = 4 := by
  intro vs H Q E h
  obtain ⟨_, _, _, _, _, _, _, rfl, _⟩ := h
  rfl
theorem len_L_more {K : PySem.W.Frag} : ∀ vs H Q E, sp_L_more K vs H Q E → vs.length = 2 := by
  intro vs H Q E h
  obtain ⟨_, _, _, _, _, _, rfl, _⟩ := h
  rfl
theorem len_L_net {K : PySem.W.Frag} : ∀ vs H Q E, sp_L_net K vs H Q E → vs.length = 1 := by
  intro vs H Q E h
  obtain ⟨_, _, rfl, _⟩ := h
  rfl
theorem len_L_asked {K : PySem.W.Frag} : ∀ vs H Q E, sp_L_asked K vs H Q E → vs.length = 1 := by
  intro vs H Q E h
  obtain ⟨_, _, rfl, _⟩ := h
  rfl
theorem len_asked_by {K : PySem.W.Frag} : ∀ vs H Q E, sp_asked_by K vs H Q E → vs.length = 1 := by
  intro vs H Q E h
  obtain ⟨_, _, rfl, _⟩ := h
  rfl
theorem len_led_to {K : PySem.W.Frag} : ∀ vs H Q E, sp_led_to K vs H Q E → vs.length = 2 := by
  intro vs H Q E h
  obtain ⟨_, _, _, _, _, rfl, _⟩ := h
  rfl
theorem len_L_right {K : PySem.W.Frag} : ∀ vs H Q E, sp_L_right K vs H Q E → vs.length = 3 := by
  intro vs H Q E h
  obtain ⟨_, _, _, _, rfl, _⟩ := h
  rfl
theorem len_top_of : ∀ vs H Q E, sp_top_of vs H Q E → vs.length = 1 := by
  intro vs H Q E h
  obtain ⟨_, rfl, _⟩ := h
  rfl
theorem len_turned : ∀ vs H Q E, sp_turned vs H Q E → vs.length = 2 := by
  intro vs H Q E h
  obtain ⟨_, _, rfl, _⟩ := h
  rfl
theorem len_two_words : ∀ vs H Q E, sp_two_words vs H Q E → vs.length = 4 := by
  intro vs H Q E h
  obtain ⟨_, _, _, _, rfl, _⟩ := h
  rfl
theorem len_cut_word : ∀ vs H Q E, sp_cut_word vs H Q E → vs.length = 3 := by
  intro vs H Q E h
  obtain ⟨_, _, _, rfl, _⟩ := h
  rfl
theorem len_joined_words : ∀ vs H Q E, sp_joined_words vs H Q E → vs.length = 3 := by
  intro vs H Q E h
  obtain ⟨_, _, _, rfl, _⟩ := h
  rfl
theorem len_cell_at {K : PySem.W.Frag} : ∀ vs H Q E, sp_cell_at K vs H Q E → vs.length = 2 := by
  intro vs H Q E h
  obtain ⟨_, _, _, _, rfl, _⟩ := h
  rfl
theorem len_worth_of {K : PySem.W.Frag} : ∀ vs H Q E, sp_worth_of K vs H Q E → vs.length = 4 := by
  intro vs H Q E h
  obtain ⟨_, _, _, _, _, _, _, _, _, rfl, _⟩ := h
  rfl
theorem len_L_worth {K : PySem.W.Frag} : ∀ vs H Q E, sp_L_worth K vs H Q E → vs.length = 4 := by
  intro vs H Q E h
  obtain ⟨_, _, _, _, _, _, _, _, _, rfl, _⟩ := h
  rfl
theorem len_law {K : PySem.W.Frag} : ∀ vs H Q E, sp_law K vs H Q E → vs.length = 1 := by
  intro vs H Q E h
  obtain ⟨_, _, rfl, _⟩ := h
  rfl

/-- L_mixed -/
def rd_L_mixed : TS :=
  (tRet (tOp rDivI (tOp rModI (tOp rMulI (tOp rModI (tOp rMulI (tOp rAddI (tOp rAddI (tOp rAddI (tVar 0) (tOp rMulI (tOp rMulI (tC (.int 7919)) (tVar 1)) (tVar 1))) (tOp rMulI (tC (.int 31)) (tVar 1))) (tC (.int 1))) (tC (.int 48271))) (tC (.int 2147483647))) (tC (.int 69621))) (tC (.int 2147483629))) (tC (.int 64))))


/-- L_names -/
def rd_L_names (K : PySem.W.Frag) : TS :=
  (tSeq (tAsg (tC (.str "abcdefghijklmnopqrstuvwxyz")) (gName 1))
    (tSeq (tAsg (tBM K "str" (rJoin K) (tC (.str "")) (tCons (tLc (iRng1 (tCons (tC (.int 8)) tNil)) (gName 11) tYes (tOp rIxS (tVar 1) (tOp rModI (tCall sp_L_mixed [] E0 (tCons (tVar 0) (tCons (tVar 11) tNil))) (tC (.int 26)))) [11]) tNil)) (gName 2))
    (Evl.tCut (tIfS (tTest (tOp rLtI (tOp rModI (tVar 0) (tC (.int 4))) (tC (.int 2)))) (tSeq (tAsg (tOp rAddI (tC (.int 2)) (tOp rModI (tOp rDivI (tVar 0) (tC (.int 4))) (tC (.int 7)))) (gName 3))
    (tSeq (tAsg (tOp rModI (tOp rDivI (tVar 0) (tC (.int 32))) (tVar 3)) (gName 4))
    (Evl.tCut (tAsg (tIf (tTest (tOp rEq (tVar 4) (tC (.int 0)))) (tVar 1) (tOp rAddStr (tVar 1) (tC (.str "0123456789")))) (gName 5))
    (tSeq (tAsg (tLc (iRng1 (tCons (tC (.int 16)) tNil)) (gName 12) tYes (tOp rIxS (tVar 5) (tOp rModI (tOp rAddI (tOp rDivI (tVar 0) (tC (.int 256))) (tOp rMulI (tC (.int 5)) (tVar 12))) (tCB cLenStr (tCons (tVar 5) tNil)))) [12]) (gName 6))
    (tAsg (tLc (iList K (tVar 6)) (gName 13) tYes (tOp rAddStr (tOp rAddStr (tSl rSlS (tVar 2) tNoPart (tPart (tVar 4))) (tVar 13)) (tSl rSlS (tVar 2) (tPart (tOp rAddI (tVar 4) (tC (.int 1)))) (tPart (tVar 3)))) [13]) (gName 7))))))
    (tIfS (tTest (tOp rEq (tOp rModI (tVar 0) (tC (.int 4))) (tC (.int 2)))) (tSeq (tAsg (tOp rAddI (tOp rAddI (tBM K "str" rIndexS (tVar 1) (tCons (tOp rIxS (tVar 2) (tC (.int 0))) tNil)) (tC (.int 1))) (tOp rModI (tOp rDivI (tVar 0) (tC (.int 4))) (tC (.int 25)))) (gName 8))
    (tSeq (tAsg (tOp rAddStr (tOp rIxS (tVar 1) (tOp rModI (tVar 8) (tC (.int 26)))) (tSl rSlS (tVar 2) (tPart (tC (.int 1))) tNoPart)) (gName 9))
    (tSeq (tAsg (tLc (iRng1 (tCons (tC (.int 8)) tNil)) (gName 12) tYes (tSl rSlS (tVar 2) tNoPart (tPart (tOp rAddI (tVar 12) (tC (.int 1))))) [12]) (gName 7))
    (tAsg (tOp rCat (tVar 7) (tLc (iRng1 (tCons (tC (.int 8)) tNil)) (gName 12) tYes (tSl rSlS (tVar 9) tNoPart (tPart (tOp rAddI (tVar 12) (tC (.int 1))))) [12])) (gName 7)))))
    (tAsg (tLc (iRng1 (tCons (tC (.int 16)) tNil)) (gName 12) tYes (tOp rIxS (tVar 1) (tOp rModI (tOp rAddI (tOp rDivI (tVar 0) (tC (.int 4))) (tOp rMulI (tC (.int 7)) (tVar 12))) (tC (.int 26)))) [12]) (gName 7))))
    (tSeq (tAsg (tBM K "str" rSplit (tC (.str "part in out wire rest let use table memory if then else cut join fill")) (tCons (tC (.str " ")) tNil)) (gName 10))
    (tSeq (tIfS (tTest (tOp (rNeD K) (tLc (iList K (tVar 7)) (gName 14) (tTest (tOp (rIn K false) (tVar 14) (tVar 10))) (tVar 14) [14]) (tLst tNil))) (tRet (tLc (iRng1 (tCons (tC (.int 16)) tNil)) (gName 12) tYes (tOp rAddStr (tC (.str "q")) (tOp rIxS (tVar 1) (tVar 12))) [12]))
    tNext)
    (tRet (tVar 7)))))))


/-- L_cell -/
def rd_L_cell (K : PySem.W.Frag) : TS :=
  (tSeq (tAsg (tC (.int 17)) (gName 2))
    (tSeq (tIfS (tTest (tOp rGtI (tCB (cLenSeq K) (tCons (tVar 0) tNil)) (tC (.int 0)))) (tAsg (tOp rModI (tOp (rIxL K) (tVar 0) (tOp rModI (tVar 1) (tCB (cLenSeq K) (tCons (tVar 0) tNil)))) (tC (.int 2147483647))) (gName 2))
    tNext)
    (tRet (tOp rDivI (tOp rModI (tOp rMulI (tOp rModI (tOp rMulI (tOp rAddI (tOp rAddI (tVar 2) (tOp rMulI (tOp rMulI (tC (.int 7919)) (tVar 1)) (tVar 1))) (tOp rMulI (tC (.int 31)) (tVar 1))) (tC (.int 48271))) (tC (.int 2147483647))) (tC (.int 69621))) (tC (.int 2147483629))) (tC (.int 64))))))


/-- L_next -/
def rd_L_next (K : PySem.W.Frag) : TS :=
  (tSeq (tAsg (tOp rAddI (tOp (rIxL K) (tVar 0) (tC (.int 1))) (tC (.int 1))) (gSub (tVar 0) (tC (.int 1)) rSetL))
    (tRet (tCall (sp_L_cell K) [] E0 (tCons (tOp (rIxL K) (tVar 0) (tC (.int 0))) (tCons (tOp (rIxL K) (tVar 0) (tC (.int 1))) tNil)))))


/-- L_word -/
def rd_L_word (K : PySem.W.Frag) : TS :=
  (tSeq (tAsg (tOp rSubI (tOp rShlI (tC (.int 1)) (tVar 1)) (tC (.int 1))) (gName 2))
    (tSeq (tAsg (tC (.int 0)) (gName 3))
    (tSeq (tFor (iRng1 (tCons (tC (.int 3)) tNil)) (gName 4) (tAsg (tOp rOrI (tOp rShlI (tVar 3) (tC (.int 25))) (tCall sp_L_mixed [] E0 (tCons (tVar 0) (tCons (tVar 4) tNil)))) (gName 3)))
    (tRet (tOp (rIxL K) (tLst (tCons (tC (.int 0)) (tCons (tVar 2) (tCons (tOp rAndI (tVar 3) (tVar 2)) (tCons (tC (.int 1)) (tCons (tOp rAndI (tVar 3) (tVar 2)) (tCons (tOp rSubI (tVar 2) (tC (.int 1))) (tCons (tOp rAndI (tVar 3) (tVar 2)) (tCons (tOp rAndI (tOp rModI (tVar 3) (tC (.int 4))) (tVar 2)) tNil))))))))) (tOp rModI (tVar 0) (tC (.int 8))))))))


/-- L_ends -/
def rd_L_ends (K : PySem.W.Frag) : TS :=
  (tSeq (tAsg (tCall (sp_L_next K) [] E0 (tCons (tVar 0) tNil)) (gName 2))
    (tSeq (tAsg (tLc (iRng1 (tCons (tC (.int 3)) tNil)) (gName 5) tYes (tOp rAddI (tC (.int 1)) (tOp rModI (tCall (sp_L_next K) [] E0 (tCons (tVar 0) tNil)) (tOp (rIxL K) (tLst (tCons (tC (.int 4)) (tCons (tC (.int 64)) tNil))) (tOp rModI (tVar 5) (tC (.int 2)))))) [5]) (gName 3))
    (tSeq (tAsg (tDisp [((tC (.str "rows")), (tLst tNil)), ((tC (.str "wide")), (tVar 3)), ((tC (.str "ins")), (tLst tNil)), ((tC (.str "rests")), (tLst tNil)), ((tC (.str "tables")), (tLst tNil)), ((tC (.str "memories")), (tLst tNil))]) (gName 4))
    (tSeq (tFor (iRng1 (tCons (tOp rModI (tVar 2) (tC (.int 4))) tNil)) (gName 5) (tDrop (tBM K "list" rAppend (tDGet (tVar 4) (tC (.str "ins"))) (tCons (tTup (tCons (tOp (rIxL K) (tVar 1) (tVar 5)) (tCons (tOp (rIxL K) (tVar 3) (tOp rModI (tCall (sp_L_next K) [] E0 (tCons (tVar 0) tNil)) (tC (.int 3)))) tNil))) tNil))))
    (tSeq (tFor (iRng1 (tCons (tOp rModI (tOp rDivI (tVar 2) (tC (.int 4))) (tC (.int 4))) tNil)) (gName 5) (tSeq (tAsg (tOp (rIxL K) (tVar 3) (tOp rModI (tCall (sp_L_next K) [] E0 (tCons (tVar 0) tNil)) (tC (.int 3)))) (gName 6))
    (tDrop (tBM K "list" rAppend (tDGet (tVar 4) (tC (.str "rests"))) (tCons (tTup (tCons (tOp rAddStr (tOp (rIxL K) (tVar 1) (tOp rAddI (tC (.int 4)) (tVar 5))) (tC (.str ".r"))) (tCons (tVar 6) (tCons (tCall sp_L_word [] E0 (tCons (tCall (sp_L_next K) [] E0 (tCons (tVar 0) tNil)) (tCons (tVar 6) tNil))) tNil)))) tNil)))))
    (tSeq (tFor (iRng1 (tCons (tOp rModI (tOp rDivI (tVar 2) (tC (.int 16))) (tC (.int 3))) tNil)) (gName 5) (tSeq (tAsg (tOp (rIxL K) (tLst (tCons (tC (.int 1)) (tCons (tC (.int 2)) (tCons (tC (.int 3)) (tCons (tC (.int 5)) (tCons (tC (.int 32)) tNil)))))) (tOp rModI (tCall (sp_L_next K) [] E0 (tCons (tVar 0) tNil)) (tC (.int 5)))) (gName 7))
    (tSeq (tAsg (tOp (rIxL K) (tVar 3) (tOp rModI (tCall (sp_L_next K) [] E0 (tCons (tVar 0) tNil)) (tC (.int 3)))) (gName 6))
    (tDrop (tBM K "list" rAppend (tDGet (tVar 4) (tC (.str "tables"))) (tCons (tTup (tCons (tVar 6) (tCons (tCB (cTupOf K) (tCons (tLc (iRng1 (tCons (tVar 7) tNil)) (gName 8) tYes (tCall sp_L_word [] E0 (tCons (tCall (sp_L_next K) [] E0 (tCons (tVar 0) tNil)) (tCons (tVar 6) tNil))) [8]) tNil)) tNil))) tNil))))))
    (tSeq (tFor (iRng1 (tCons (tOp rModI (tOp rDivI (tVar 2) (tC (.int 48))) (tC (.int 3))) tNil)) (gName 5) (tSeq (tAsg (tOp (rIxL K) (tLst (tCons (tC (.int 1)) (tCons (tC (.int 2)) (tCons (tC (.int 3)) (tCons (tC (.int 4)) (tCons (tC (.int 32)) tNil)))))) (tOp rModI (tCall (sp_L_next K) [] E0 (tCons (tVar 0) tNil)) (tC (.int 5)))) (gName 7))
    (tDrop (tBM K "list" rAppend (tDGet (tVar 4) (tC (.str "memories"))) (tCons (tTup (tCons (tOp (rIxL K) (tVar 1) (tOp rAddI (tC (.int 8)) (tVar 5))) (tCons (tOp (rIxL K) (tVar 3) (tOp rModI (tCall (sp_L_next K) [] E0 (tCons (tVar 0) tNil)) (tC (.int 3)))) (tCons (tVar 7) tNil)))) tNil)))))
    (tRet (tVar 4)))))))))


/-- L_leaves -/
def rd_L_leaves (K : PySem.W.Frag) : TS :=
  (tSeq (tFor (iList K (tOp rCat (tLst (tCons (tC (.int 1)) tNil)) (tDGet (tVar 1) (tC (.str "wide"))))) (gName 2) (tDrop (tBM K "list" rAppend (tDGet (tVar 1) (tC (.str "rows"))) (tCons (tTup (tCons (tC (.str "number")) (tCons (tVar 2) (tCons (tCall sp_L_word [] E0 (tCons (tCall (sp_L_next K) [] E0 (tCons (tVar 0) tNil)) (tCons (tVar 2) tNil))) tNil)))) tNil))))
    (tSeq (tFor (iEnum K (tCons (tDGet (tVar 1) (tC (.str "ins"))) tNil)) (gTup K 2 (gCons (gName 3) (gCons (gName 4) gNil))) (tDrop (tBM K "list" rAppend (tDGet (tVar 1) (tC (.str "rows"))) (tCons (tTup (tCons (tC (.str "in")) (tCons (tOp (rIxT K) (tVar 4) (tC (.int 1))) (tCons (tVar 3) tNil)))) tNil))))
    (tFor (iEnum K (tCons (tDGet (tVar 1) (tC (.str "rests"))) tNil)) (gTup K 2 (gCons (gName 3) (gCons (gName 5) gNil))) (tDrop (tBM K "list" rAppend (tDGet (tVar 1) (tC (.str "rows"))) (tCons (tTup (tCons (tC (.str "rest")) (tCons (tOp (rIxT K) (tVar 5) (tC (.int 1))) (tCons (tVar 3) tNil)))) tNil))))))


/-- L_of_width -/
def rd_L_of_width (K : PySem.W.Frag) : TS :=
  (tSeq (tAsg (tLc (iEnum K (tCons (tVar 0) tNil)) (gTup K 2 (gCons (gName 4) (gCons (gName 5) gNil))) (tTest (tOp rEq (tOp (rIxT K) (tVar 5) (tC (.int 1))) (tVar 1))) (tVar 4) [4, 5]) (gName 3))
    (tSeq (tIfS (tTest (tOp rEq (tOp rModI (tVar 2) (tC (.int 2))) (tC (.int 1)))) (tAsg (tSl (rSlL K) (tVar 3) (tPart (tUn rNegI (tC (.int 3)))) tNoPart) (gName 3))
    tNext)
    (tRet (tOp (rIxL K) (tVar 3) (tOp rModI (tOp rDivI (tVar 2) (tC (.int 2))) (tCB (cLenSeq K) (tCons (tVar 3) tNil)))))))


/-- L_parted -/
def rd_L_parted (K : PySem.W.Frag) : TS :=
  (tSeq (tAsg (tOp (rIxT K) (tOp (rIxL K) (tVar 0) (tVar 1)) (tC (.int 1))) (gName 4))
    (tSeq (tIfS (tTest (tOp rEq (tVar 2) (tC (.int 0)))) (tSeq (tAsg (tOp rAddI (tC (.int 1)) (tOp rModI (tVar 3) (tVar 4))) (gName 5))
    (tRet (tTup (tCons (tC (.str "cut")) (tCons (tVar 5) (tCons (tVar 1) (tCons (tOp rModI (tOp rDivI (tVar 3) (tC (.int 64))) (tOp rAddI (tOp rSubI (tVar 4) (tVar 5)) (tC (.int 1)))) tNil)))))))
    tNext)
    (tSeq (tIfS (tTest (tOp rEq (tVar 2) (tC (.int 1)))) (tRet (tTup (tCons (tC (.str "fill")) (tCons (tCB cMin2 (tCons (tC (.int 64)) (tCons (tOp rAddI (tVar 4) (tOp rMulI (tOp rModI (tVar 3) (tC (.int 3))) (tOp rModI (tOp rDivI (tVar 3) (tC (.int 3))) (tC (.int 20))))) tNil))) (tCons (tVar 1) tNil)))))
    tNext)
    (tSeq (tAsg (tOp rModI (tOp rDivI (tVar 3) (tC (.int 3))) (tCB (cLenSeq K) (tCons (tVar 0) tNil))) (gName 6))
    (tSeq (tIfS (tTest (tOp rGtI (tOp rAddI (tVar 4) (tOp (rIxT K) (tOp (rIxL K) (tVar 0) (tVar 6)) (tC (.int 1)))) (tC (.int 64)))) (tRet (tTup (tCons (tC (.str "not")) (tCons (tVar 4) (tCons (tVar 1) tNil)))))
    tNext)
    (tRet (tTup (tCons (tC (.str "join")) (tCons (tOp rAddI (tVar 4) (tOp (rIxT K) (tOp (rIxL K) (tVar 0) (tVar 6)) (tC (.int 1)))) (tCons (tVar 1) (tCons (tVar 6) tNil)))))))))))


/-- L_more -/
def rd_L_more (K : PySem.W.Frag) : TS :=
  (tSeq (tAsg (tDGet (tVar 0) (tC (.str "rows"))) (gName 2))
    (tSeq (tPar 3 4 (tCons (tOp rModI (tVar 1) (tC (.int 12))) (tCons (tOp rDivI (tVar 1) (tC (.int 12))) tNil)))
    (Evl.tCut (tAsg (tIf (tTest (tOp rGtI (tOp rModI (tVar 4) (tC (.int 3))) (tC (.int 0)))) (tOp rSubI (tOp rSubI (tCB (cLenSeq K) (tCons (tVar 2) tNil)) (tC (.int 1))) (tOp rModI (tOp rModI (tVar 4) (tC (.int 5))) (tCB (cLenSeq K) (tCons (tVar 2) tNil)))) (tOp rModI (tOp rDivI (tVar 4) (tC (.int 15))) (tCB (cLenSeq K) (tCons (tVar 2) tNil)))) (gName 5))
    (tSeq (tAsg (tOp (rIxT K) (tOp (rIxL K) (tVar 2) (tVar 5)) (tC (.int 1))) (gName 6))
    (tSeq (tAsg (tOp rDivI (tVar 4) (tC (.int 60))) (gName 4))
    (tSeq (tIfS (tTest (tOp rLtI (tVar 3) (tC (.int 4)))) (tSeq (tAsg (tCall (sp_L_of_width K) [] E0 (tCons (tVar 2) (tCons (tVar 6) (tCons (tOp rDivI (tVar 4) (tC (.int 8))) tNil)))) (gName 7))
    (tSeq (tAsg (tOp (rIxL K) (tLst (tCons (tC (.str "&")) (tCons (tC (.str "|")) (tCons (tC (.str "^")) (tCons (tC (.str "+")) (tCons (tC (.str "-")) (tCons (tC (.str "==")) (tCons (tC (.str "<")) (tCons (tC (.str "+")) tNil))))))))) (tOp rModI (tVar 4) (tC (.int 8)))) (gName 8))
    (tRet (tTup (tCons (tC (.str "two")) (tCons (tIf (tTest (tOp (rIn K false) (tVar 8) (tTup (tCons (tC (.str "==")) (tCons (tC (.str "<")) tNil))))) (tC (.int 1)) (tVar 6)) (tCons (tVar 8) (tCons (tVar 5) (tCons (tVar 7) tNil)))))))))
    tNext)
    (tSeq (tIfS (tAnd (tTest (tOp rEq (tVar 3) (tC (.int 4)))) (tTest (tOp rEq (tOp rModI (tVar 4) (tC (.int 2))) (tC (.int 0))))) (tRet (tTup (tCons (tC (.str "not")) (tCons (tC (.int 1)) (tCons (tCall (sp_L_of_width K) [] E0 (tCons (tVar 2) (tCons (tC (.int 1)) (tCons (tOp rDivI (tVar 4) (tC (.int 2))) tNil)))) tNil)))))
    tNext)
    (tSeq (tIfS (tTest (tOp rEq (tVar 3) (tC (.int 4)))) (tRet (tTup (tCons (tC (.str "not")) (tCons (tVar 6) (tCons (tVar 5) tNil)))))
    tNext)
    (tSeq (tIfS (tTest (tOp rEq (tVar 3) (tC (.int 5)))) (tSeq (tAsg (tLc (iEnum K (tCons (tVar 2) tNil)) (gTup K 2 (gCons (gName 10) (gCons (gName 11) gNil))) (tAnd (tTest (tOp rEq (tOp (rIxT K) (tVar 11) (tC (.int 1))) (tC (.int 1)))) (tTest (tOp rEq (tOp (rIxT K) (tVar 11) (tC (.int 0))) (tC (.str "not"))))) (tVar 10) [10, 11]) (gName 9))
    (Evl.tCut (tIfS (tOr (tTest (tOp (rEqD K) (tVar 9) (tLst tNil))) (tTest (tOp rGtI (tOp rModI (tVar 4) (tC (.int 3))) (tC (.int 0))))) (tAsg (tLst (tCons (tCall (sp_L_of_width K) [] E0 (tCons (tVar 2) (tCons (tC (.int 1)) (tCons (tVar 4) tNil)))) tNil)) (gName 9))
    tNext)
    (tSeq (tAsg (tCall (sp_L_of_width K) [] E0 (tCons (tVar 2) (tCons (tVar 6) (tCons (tOp rDivI (tVar 4) (tC (.int 5))) tNil)))) (gName 7))
    (tRet (tTup (tCons (tC (.str "pick")) (tCons (tVar 6) (tCons (tOp (rIxL K) (tVar 9) (tOp rModI (tOp rDivI (tVar 4) (tC (.int 3))) (tCB (cLenSeq K) (tCons (tVar 9) tNil)))) (tCons (tVar 5) (tCons (tVar 7) tNil))))))))))
    tNext)
    (tSeq (tIfS (tAnd (tTest (tOp rEq (tVar 3) (tC (.int 6)))) (tTest (tOp (rNeD K) (tDGet (tVar 0) (tC (.str "tables"))) (tLst tNil)))) (tSeq (tAsg (tOp rModI (tVar 4) (tCB (cLenSeq K) (tCons (tDGet (tVar 0) (tC (.str "tables"))) tNil))) (gName 10))
    (tRet (tTup (tCons (tC (.str "table")) (tCons (tOp (rIxT K) (tOp (rIxL K) (tDGet (tVar 0) (tC (.str "tables"))) (tVar 10)) (tC (.int 0))) (tCons (tVar 10) (tCons (tVar 5) tNil)))))))
    tNext)
    (tSeq (tIfS (tAnd (tTest (tOp rEq (tVar 3) (tC (.int 7)))) (tTest (tOp (rNeD K) (tDGet (tVar 0) (tC (.str "memories"))) (tLst tNil)))) (tSeq (tAsg (tOp rModI (tVar 4) (tCB (cLenSeq K) (tCons (tDGet (tVar 0) (tC (.str "memories"))) tNil))) (gName 10))
    (tRet (tTup (tCons (tC (.str "memory")) (tCons (tOp (rIxT K) (tOp (rIxL K) (tDGet (tVar 0) (tC (.str "memories"))) (tVar 10)) (tC (.int 1))) (tCons (tVar 10) (tCons (tVar 5) tNil)))))))
    tNext)
    (tSeq (tIfS (tTest (tOp rEq (tVar 3) (tC (.int 8)))) (tRet (tTup (tCons (tC (.str "number")) (tCons (tVar 6) (tCons (tCall sp_L_word [] E0 (tCons (tVar 4) (tCons (tVar 6) tNil))) tNil)))))
    tNext)
    (tRet (tCall (sp_L_parted K) [] E0 (tCons (tVar 2) (tCons (tVar 5) (tCons (tOp rModI (tVar 3) (tC (.int 3))) (tCons (tVar 4) tNil))))))))))))))))))


/-- L_net -/
def rd_L_net (K : PySem.W.Frag) : TS :=
  (tSeq (tAsg (tLst (tCons (tVar 0) (tCons (tC (.int 0)) tNil))) (gName 1))
    (tSeq (tAsg (tCall (sp_L_names K) [] E0 (tCons (tCall (sp_L_cell K) [] E0 (tCons (tVar 0) (tCons (tC (.int 0)) tNil))) tNil)) (gName 2))
    (tSeq (tAsg (tCall (sp_L_ends K) [] E0 (tCons (tVar 1) (tCons (tVar 2) tNil))) (gName 3))
    (tSeq (tDrop (tCall (sp_L_leaves K) [] E0 (tCons (tVar 1) (tCons (tVar 3) tNil))))
    (tSeq (tAsg (tDGet (tVar 3) (tC (.str "rows"))) (gName 4))
    (tSeq (tFor (iList K (tSl (rSlL K) (tVar 0) tNoPart (tPart (tC (.int 200))))) (gName 5) (tDrop (tBM K "list" rAppend (tVar 4) (tCons (tCall (sp_L_more K) [] E0 (tCons (tVar 3) (tCons (tCall sp_L_mixed [] E0 (tCons (tOp rModI (tVar 5) (tC (.int 2147483647))) (tCons (tCB (cLenSeq K) (tCons (tVar 4) tNil)) tNil))) tNil))) tNil))))
    (tSeq (tAsg (tCB (cTupOf K) (tCons (tLc (iList K (tDGet (tVar 3) (tC (.str "rests")))) (gName 14) tYes (tOp (rCatA K) (tVar 14) (tTup (tCons (tCall (sp_L_of_width K) [] E0 (tCons (tVar 4) (tCons (tOp (rIxT K) (tVar 14) (tC (.int 1))) (tCons (tCall (sp_L_next K) [] E0 (tCons (tVar 1) tNil)) tNil)))) tNil))) [14]) tNil)) (gName 6))
    (tSeq (tAsg (tLst tNil) (gName 7))
    (tSeq (tFor (iList K (tDGet (tVar 3) (tC (.str "memories")))) (gName 8) (tSeq (tAsg (tOp rModI (tCall (sp_L_next K) [] E0 (tCons (tVar 1) tNil)) (tCB (cLenSeq K) (tCons (tVar 4) tNil))) (gName 9))
    (tSeq (tAsg (tCall (sp_L_of_width K) [] E0 (tCons (tVar 4) (tCons (tOp (rIxT K) (tVar 8) (tC (.int 1))) (tCons (tCall (sp_L_next K) [] E0 (tCons (tVar 1) tNil)) tNil)))) (gName 10))
    (tDrop (tBM K "list" rAppend (tVar 7) (tCons (tOp (rCatA K) (tVar 8) (tTup (tCons (tVar 9) (tCons (tVar 10) (tCons (tCall (sp_L_of_width K) [] E0 (tCons (tVar 4) (tCons (tC (.int 1)) (tCons (tCall (sp_L_next K) [] E0 (tCons (tVar 1) tNil)) tNil)))) tNil))))) tNil))))))
    (tSeq (tAsg (tCall (sp_L_next K) [] E0 (tCons (tVar 1) tNil)) (gName 11))
    (tSeq (tAsg (tLc (iRng1 (tCons (tOp rAddI (tC (.int 1)) (tOp rModI (tVar 11) (tC (.int 3)))) tNil)) (gName 15) tYes (tTup (tCons (tOp (rIxL K) (tVar 2) (tOp rAddI (tC (.int 12)) (tVar 15))) (tCons (tOp rSubI (tOp rSubI (tCB (cLenSeq K) (tCons (tVar 4) tNil)) (tC (.int 1))) (tOp rModI (tOp rModI (tOp rDivI (tVar 11) (tC (.int 3))) (tOp rAddI (tOp rMulI (tC (.int 4)) (tVar 15)) (tC (.int 1)))) (tCB (cLenSeq K) (tCons (tVar 4) tNil)))) tNil))) [15]) (gName 12))
    (tSeq (tAsg (tCB (cTupOf K) (tCons (tLc (iList K (tDGet (tVar 3) (tC (.str "tables")))) (gName 16) tYes (tOp (rIxT K) (tVar 16) (tC (.int 1))) [16]) tNil)) (gName 13))
    (tRet (tTup (tCons (tCB (cTupOf K) (tCons (tDGet (tVar 3) (tC (.str "ins"))) tNil)) (tCons (tCB (cTupOf K) (tCons (tVar 4) tNil)) (tCons (tCB (cTupOf K) (tCons (tVar 12) tNil)) (tCons (tVar 6) (tCons (tVar 13) (tCons (tCB (cTupOf K) (tCons (tVar 7) tNil)) tNil))))))))))))))))))))


/-- L_asked -/
def rd_L_asked (K : PySem.W.Frag) : TS :=
  (tSeq (tAsg (tDisp [((tC (.str "not")), (tLst (tCons (tC (.int 2)) tNil))), ((tC (.str "two")), (tLst (tCons (tC (.int 3)) (tCons (tC (.int 4)) tNil)))), ((tC (.str "pick")), (tLst (tCons (tC (.int 2)) (tCons (tC (.int 3)) (tCons (tC (.int 4)) tNil))))), ((tC (.str "cut")), (tLst (tCons (tC (.int 2)) tNil))), ((tC (.str "join")), (tLst (tCons (tC (.int 2)) (tCons (tC (.int 3)) tNil)))), ((tC (.str "fill")), (tLst (tCons (tC (.int 2)) tNil)))]) (gName 1))
    (tSeq (tDrop (tBM K "dict" rDUpd (tVar 1) (tCons (tDisp [((tC (.str "table")), (tLst (tCons (tC (.int 3)) tNil))), ((tC (.str "memory")), (tLst (tCons (tC (.int 3)) tNil)))]) tNil)))
    (tRet (tDGet2 (tVar 1) (tOp (rIxT K) (tVar 0) (tC (.int 0))) (tLst tNil)))))


/-- asked_by -/
def rd_asked_by (K : PySem.W.Frag) (w : World) : TS :=
  (tRet (tLc (iTup K (tOp (rIxD K w) (tC (.ref (He.ga K "ASKED_AT"))) (tOp (rIxT K) (tVar 0) (tC (.int 0))))) (gName 1) tYes (tOp (rIxT K) (tVar 0) (tVar 1)) [1]))


/-- led_to -/
def rd_led_to (K : PySem.W.Frag) (w : World) : TS :=
  (tSeq (tAsg (tOp (rIxD K w) (tC (.ref (He.ga K "ASKED_AT"))) (tOp (rIxT K) (tVar 0) (tC (.int 0)))) (gName 2))
    (tSeq (tAsg (tCB (cListOf K) (tCons (tVar 0) tNil)) (gName 3))
    (tSeq (tFor (iZw K (tCons (tVar 2) (tCons (tVar 1) tNil))) (gTup K 2 (gCons (gName 4) (gCons (gName 5) gNil))) (tAsg (tVar 5) (gSub (tVar 3) (tVar 4) rSetL)))
    (tRet (tCB (cTupOf K) (tCons (tVar 3) tNil))))))


/-- L_right -/
def rd_L_right (K : PySem.W.Frag) : TS :=
  (tSeq (tAsg (tCall (sp_L_asked K) [] E0 (tCons (tVar 1) tNil)) (gName 3))
    (tSeq (tAsg (tCall (sp_asked_by K) [] E0 (tCons (tVar 1) tNil)) (gName 4))
    (tSeq (tIfS (tOr (tNot (tTru K (tCB (rIsi K) (tCons (tVar 4) (tCons (tC (.ty "list")) tNil))))) (tTest (tOp (rNeD K) (tVar 4) (tLc (iList K (tVar 3)) (gName 7) tYes (tOp (rIxT K) (tVar 1) (tVar 7)) [7])))) (tRet (tC (.bl false)))
    tNext)
    (tSeq (tDrop (tBM K "list" rAppend (tVar 4) (tCons (tC (.int 7)) tNil)))
    (tSeq (tIfS (tTest (tOp (rNeD K) (tCall (sp_asked_by K) [] E0 (tCons (tVar 1) tNil)) (tLc (iList K (tVar 3)) (gName 7) tYes (tOp (rIxT K) (tVar 1) (tVar 7)) [7]))) (tRet (tC (.bl false)))
    tNext)
    (tSeq (tAsg (tLc (iRng1 (tCons (tCB (cLenSeq K) (tCons (tVar 3) tNil)) tNil)) (gName 10) tYes (tOp rModI (tCall sp_L_mixed [] E0 (tCons (tVar 2) (tCons (tVar 10) tNil))) (tC (.int 3000))) [10]) (gName 5))
    (tSeq (tAsg (tCB (cListOf K) (tCons (tVar 1) tNil)) (gName 6))
    (tSeq (tFor (iZip K (tCons (tVar 3) (tCons (tVar 5) tNil))) (gTup K 2 (gCons (gName 7) (gCons (gName 8) gNil))) (tAsg (tVar 8) (gSub (tVar 6) (tVar 7) rSetL)))
    (tSeq (tAsg (tCB (cListOf K) (tCons (tVar 5) tNil)) (gName 9))
    (tSeq (tIfS (tOr (tTest (tOp (rNeD K) (tCall (sp_led_to K) [] E0 (tCons (tVar 1) (tCons (tVar 9) tNil))) (tCB (cTupOf K) (tCons (tVar 6) tNil)))) (tOr (tNot (tTru K (tCB (rIsi K) (tCons (tCall (sp_led_to K) [] E0 (tCons (tVar 1) (tCons (tVar 9) tNil))) (tCons (tC (.ty "tuple")) tNil))))) (tTest (tOp (rNeD K) (tVar 9) (tVar 5))))) (tRet (tC (.bl false)))
    tNext)
    (tRet (tAndT K (tOp (rEqD K) (tCall (sp_led_to K) [] E0 (tCons (tVar 1) (tCons (tCB (cTupOf K) (tCons (tVar 5) tNil)) tNil))) (tCB (cTupOf K) (tCons (tVar 6) tNil))) (tOp (rEqD K) (tCall (sp_led_to K) [] E0 (tCons (tVar 1) (tCons (tLc (iList K (tVar 3)) (gName 7) tYes (tOp (rIxT K) (tVar 1) (tVar 7)) [7]) tNil))) (tVar 1))))))))))))))


/-- top_of -/
def rd_top_of : TS :=
  (tRet (tOp rSubI (tOp rShlI (tC (.int 1)) (tVar 0)) (tC (.int 1))))


/-- turned -/
def rd_turned : TS :=
  (tRet (tOp rXorI (tVar 0) (tCall sp_top_of [] E0 (tCons (tVar 1) tNil))))


/-- two_words -/
def rd_two_words : TS :=
  (tSeq (tIfS (tTest (tOp rEq (tVar 0) (tC (.str "&")))) (tRet (tOp rAndI (tVar 1) (tVar 2)))
    tNext)
    (tSeq (tIfS (tTest (tOp rEq (tVar 0) (tC (.str "|")))) (tRet (tOp rOrI (tVar 1) (tVar 2)))
    tNext)
    (tSeq (tIfS (tTest (tOp rEq (tVar 0) (tC (.str "^")))) (tRet (tOp rXorI (tVar 1) (tVar 2)))
    tNext)
    (tSeq (tIfS (tTest (tOp rEq (tVar 0) (tC (.str "+")))) (tRet (tOp rAndI (tOp rAddI (tVar 1) (tVar 2)) (tCall sp_top_of [] E0 (tCons (tVar 3) tNil))))
    tNext)
    (tSeq (tIfS (tTest (tOp rEq (tVar 0) (tC (.str "-")))) (tRet (tOp rAndI (tOp rSubI (tVar 1) (tVar 2)) (tCall sp_top_of [] E0 (tCons (tVar 3) tNil))))
    tNext)
    (tSeq (tIfS (tTest (tOp rEq (tVar 0) (tC (.str "==")))) (tRet (tIf (tTest (tOp rEq (tVar 1) (tVar 2))) (tC (.int 1)) (tC (.int 0))))
    tNext)
    (tRet (tIf (tTest (tOp rLtI (tVar 1) (tVar 2))) (tC (.int 1)) (tC (.int 0))))))))))


/-- cut_word -/
def rd_cut_word : TS :=
  (tRet (tOp rAndI (tOp rShrI (tVar 0) (tVar 1)) (tCall sp_top_of [] E0 (tCons (tVar 2) tNil))))


/-- joined_words -/
def rd_joined_words : TS :=
  (tRet (tOp rOrI (tOp rShlI (tVar 0) (tVar 2)) (tVar 1)))


/-- cell_at -/
def rd_cell_at (K : PySem.W.Frag) : TS :=
  (tRet (tIf (tTest (tOp rLtI (tVar 1) (tCB (cLenSeq K) (tCons (tVar 0) tNil)))) (tOp (rIxA K) (tVar 0) (tVar 1)) (tC (.int 0))))


/-- worth_of -/
def rd_worth_of (K : PySem.W.Frag) : TS :=
  (tSeq (tPar 4 5 (tCons (tOp (rIxT K) (tVar 0) (tC (.int 0))) (tCons (tOp (rIxT K) (tVar 0) (tC (.int 1))) tNil)))
    (tSeq (tAsg (tLc (iList K (tCall (sp_asked_by K) [] E0 (tCons (tVar 0) tNil))) (gName 7) tYes (tOp (rIxA K) (tVar 1) (tVar 7)) [7]) (gName 6))
    (tSeq (tIfS (tTest (tOp rEq (tVar 4) (tC (.str "not")))) (tRet (tCall sp_turned [] E0 (tCons (tOp (rIxL K) (tVar 6) (tC (.int 0))) (tCons (tVar 5) tNil))))
    tNext)
    (tSeq (tIfS (tTest (tOp rEq (tVar 4) (tC (.str "two")))) (tRet (tCall sp_two_words [] E0 (tCons (tOp (rIxT K) (tVar 0) (tC (.int 2))) (tCons (tOp (rIxL K) (tVar 6) (tC (.int 0))) (tCons (tOp (rIxL K) (tVar 6) (tC (.int 1))) (tCons (tVar 5) tNil))))))
    tNext)
    (tSeq (tIfS (tTest (tOp rEq (tVar 4) (tC (.str "pick")))) (tRet (tIf (tTest (tOp rEq (tOp (rIxL K) (tVar 6) (tC (.int 0))) (tC (.int 1)))) (tOp (rIxL K) (tVar 6) (tC (.int 1))) (tOp (rIxL K) (tVar 6) (tC (.int 2)))))
    tNext)
    (tSeq (tIfS (tTest (tOp rEq (tVar 4) (tC (.str "cut")))) (tRet (tCall sp_cut_word [] E0 (tCons (tOp (rIxL K) (tVar 6) (tC (.int 0))) (tCons (tOp (rIxT K) (tVar 0) (tC (.int 3))) (tCons (tVar 5) tNil)))))
    tNext)
    (tSeq (tIfS (tTest (tOp rEq (tVar 4) (tC (.str "join")))) (tRet (tCall sp_joined_words [] E0 (tCons (tOp (rIxL K) (tVar 6) (tC (.int 0))) (tCons (tOp (rIxL K) (tVar 6) (tC (.int 1))) (tCons (tOp (rIxT K) (tOp (rIxT K) (tVar 2) (tOp (rIxT K) (tVar 0) (tC (.int 3)))) (tC (.int 1))) tNil)))))
    tNext)
    (tSeq (tIfS (tTest (tOp rEq (tVar 4) (tC (.str "fill")))) (tRet (tOp (rIxL K) (tVar 6) (tC (.int 0))))
    tNext)
    (tRet (tCall (sp_cell_at K) [] E0 (tCons (tOp (rIxT K) (tVar 3) (tOp (rIxT K) (tVar 0) (tC (.int 2)))) (tCons (tOp (rIxL K) (tVar 6) (tC (.int 0))) tNil))))))))))))


/-- L_worth -/
def rd_L_worth (K : PySem.W.Frag) : TS :=
  (tSeq (tPar 4 5 (tCons (tOp (rIxT K) (tVar 0) (tC (.int 0))) (tCons (tOp rShlI (tC (.int 1)) (tOp (rIxT K) (tVar 0) (tC (.int 1)))) tNil)))
    (tSeq (tIfS (tTest (tOp rEq (tVar 4) (tC (.str "two")))) (tSeq (tPar 6 7 (tCons (tOp (rIxL K) (tVar 1) (tOp (rIxT K) (tVar 0) (tC (.int 3)))) (tCons (tOp (rIxL K) (tVar 1) (tOp (rIxT K) (tVar 0) (tC (.int 4)))) tNil)))
    (tSeq (tAsg (tDisp [((tC (.str "&")), (tOp rAndI (tVar 6) (tVar 7))), ((tC (.str "|")), (tOp rOrI (tVar 6) (tVar 7))), ((tC (.str "^")), (tOp rXorI (tVar 6) (tVar 7))), ((tC (.str "+")), (tOp rModI (tOp rAddI (tVar 6) (tVar 7)) (tVar 5)))]) (gName 8))
    (tSeq (tDrop (tBM K "dict" rDUpd (tVar 8) (tCons (tDisp [((tC (.str "-")), (tOp rModI (tOp rSubI (tVar 6) (tVar 7)) (tVar 5))), ((tC (.str "==")), (tCB cInt1 (tCons (tOp rEq (tVar 6) (tVar 7)) tNil))), ((tC (.str "<")), (tCB cInt1 (tCons (tOp rLtI (tVar 6) (tVar 7)) tNil)))]) tNil)))
    (tRet (tDGet (tVar 8) (tOp (rIxT K) (tVar 0) (tC (.int 2))))))))
    tNext)
    (tSeq (tIfS (tTest (tOp rEq (tVar 4) (tC (.str "not")))) (tRet (tOp rSubI (tOp rSubI (tVar 5) (tC (.int 1))) (tOp (rIxL K) (tVar 1) (tOp (rIxT K) (tVar 0) (tC (.int 2))))))
    tNext)
    (tSeq (tIfS (tTest (tOp rEq (tVar 4) (tC (.str "pick")))) (tRet (tOp (rIxL K) (tVar 1) (tOp (rIxT K) (tVar 0) (tOp rAddI (tC (.int 3)) (tCB cInt1 (tCons (tOp rEq (tOp (rIxL K) (tVar 1) (tOp (rIxT K) (tVar 0) (tC (.int 2)))) (tC (.int 0))) tNil))))))
    tNext)
    (tSeq (tIfS (tTest (tOp rEq (tVar 4) (tC (.str "cut")))) (tRet (tOp rModI (tOp rShrI (tOp (rIxL K) (tVar 1) (tOp (rIxT K) (tVar 0) (tC (.int 2)))) (tOp (rIxT K) (tVar 0) (tC (.int 3)))) (tVar 5)))
    tNext)
    (tSeq (tIfS (tTest (tOp rEq (tVar 4) (tC (.str "join")))) (tRet (tOp rAddI (tOp rShlI (tOp (rIxL K) (tVar 1) (tOp (rIxT K) (tVar 0) (tC (.int 2)))) (tOp (rIxT K) (tOp (rIxT K) (tVar 2) (tOp (rIxT K) (tVar 0) (tC (.int 3)))) (tC (.int 1)))) (tOp (rIxL K) (tVar 1) (tOp (rIxT K) (tVar 0) (tC (.int 3))))))
    tNext)
    (tSeq (tIfS (tTest (tOp rEq (tVar 4) (tC (.str "fill")))) (tRet (tOp (rIxL K) (tVar 1) (tOp (rIxT K) (tVar 0) (tC (.int 2)))))
    tNext)
    (tSeq (tAsg (tOp (rIxL K) (tVar 1) (tOp (rIxT K) (tVar 0) (tC (.int 3)))) (gName 9))
    (tRet (tIf (tTest (tOp rLtI (tVar 9) (tCB (cLenSeq K) (tCons (tOp (rIxT K) (tVar 3) (tOp (rIxT K) (tVar 0) (tC (.int 2)))) tNil)))) (tOp (rIxT K) (tOp (rIxT K) (tVar 3) (tOp (rIxT K) (tVar 0) (tC (.int 2)))) (tVar 9)) (tC (.int 0))))))))))))


/-- law -/
def rd_law (K : PySem.W.Frag) : TS :=
  (tSeq (tAsg (tCall (sp_L_net K) [] E0 (tCons (tVar 0) tNil)) (gName 1))
    (tSeq (tAsg (tOp (rIxT K) (tVar 1) (tC (.int 1))) (gName 2))
    (tSeq (tAsg (tLc (iEnS K (tCons (tVar 2) tNil)) (gTup K 2 (gCons (gName 5) (gCons (gName 6) gNil))) tYes (tCall sp_L_word [] E0 (tCons (tCall sp_L_mixed [] E0 (tCons (tCall (sp_L_cell K) [] E0 (tCons (tVar 0) (tCons (tVar 5) tNil))) (tCons (tOp rAddI (tC (.int 30)) (tVar 5)) tNil))) (tCons (tOp (rIxT K) (tVar 6) (tC (.int 1))) tNil))) [5, 6]) (gName 3))
    (tSeq (tAsg (tCB (cDictP K) (tCons (tLc (iEnum K (tCons (tVar 3) tNil)) (gTup K 2 (gCons (gName 5) (gCons (gName 11) gNil))) tYes (tTup (tCons (tVar 5) (tCons (tVar 11) tNil))) [5, 11]) tNil)) (gName 4))
    (tSeq (tFor (iEnS K (tCons (tVar 2) tNil)) (gTup K 2 (gCons (gName 5) (gCons (gName 6) gNil))) (tSeq (tAsg (tCall sp_L_mixed [] E0 (tCons (tCall (sp_L_cell K) [] E0 (tCons (tVar 0) (tCons (tVar 5) tNil))) (tCons (tC (.int 60)) tNil))) (gName 7))
    (tSeq (tIfS (tNot (tTru K (tCall (sp_L_right K) [] E0 (tCons (tVar 1) (tCons (tVar 6) (tCons (tVar 7) tNil)))))) (tRet (tC (.bl false)))
    tNext)
    (tIfS (tAnd (tTest (tOp (rNeD K) (tCall (sp_L_asked K) [] E0 (tCons (tVar 6) tNil)) (tLst tNil))) (tTest (tOp rNe (tOp (rIxT K) (tVar 6) (tC (.int 0))) (tC (.str "memory"))))) (tSeq (tAsg (tCall (sp_worth_of K) [] E0 (tCons (tVar 6) (tCons (tOp (rIxL K) (tLst (tCons (tVar 3) (tCons (tVar 4) tNil))) (tOp rModI (tVar 7) (tC (.int 2)))) (tCons (tVar 2) (tCons (tOp (rIxT K) (tVar 1) (tC (.int 4))) tNil))))) (gName 8))
    (tIfS (tOr (tTest (tOp rNe (tVar 8) (tCall (sp_L_worth K) [] E0 (tCons (tVar 6) (tCons (tVar 3) (tCons (tVar 2) (tCons (tOp (rIxT K) (tVar 1) (tC (.int 4))) tNil))))))) (tOr (tTru K (tCB (rIsi K) (tCons (tVar 8) (tCons (tC (.ty "bool")) tNil)))) (tNot (tTru K (tCB (rIsi K) (tCons (tVar 8) (tCons (tC (.ty "int")) tNil))))))) (tRet (tC (.bl false)))
    tNext))
    tNext))))
    (tSeq (tFor (iRng1 (tCons (tC (.int 6)) tNil)) (gName 5) (tSeq (tAsg (tCall sp_L_mixed [] E0 (tCons (tCall (sp_L_cell K) [] E0 (tCons (tVar 0) (tCons (tVar 5) tNil))) (tCons (tOp rAddI (tC (.int 70)) (tVar 5)) tNil))) (gName 7))
    (tSeq (tAsg (tLc (iRng1 (tCons (tOp rModI (tVar 7) (tC (.int 6))) tNil)) (gName 12) tYes (tCall sp_L_word [] E0 (tCons (tCall sp_L_mixed [] E0 (tCons (tVar 7) (tCons (tVar 12) tNil))) (tCons (tC (.int 64)) tNil))) [12]) (gName 9))
    (tSeq (tAsg (tOp (rIxL K) (tLst (tCons (tOp rModI (tOp rDivI (tVar 7) (tC (.int 6))) (tC (.int 7))) (tCons (tCB (cLenSeq K) (tCons (tVar 9) tNil)) (tCons (tCall sp_L_word [] E0 (tCons (tOp rDivI (tVar 7) (tC (.int 6))) (tCons (tC (.int 64)) tNil))) tNil)))) (tOp rModI (tOp rDivI (tVar 7) (tC (.int 42))) (tC (.int 3)))) (gName 10))
    (tIfS (tTest (tOp rNe (tCall (sp_cell_at K) [] E0 (tCons (tOp (rIxL K) (tLst (tCons (tVar 9) (tCons (tCB (cTupOf K) (tCons (tVar 9) tNil)) tNil))) (tOp rModI (tVar 7) (tC (.int 2)))) (tCons (tVar 10) tNil))) (tOp (rIxL K) (tOp rCat (tVar 9) (tLst (tCons (tC (.int 0)) tNil))) (tCB cMin2 (tCons (tVar 10) (tCons (tCB (cLenSeq K) (tCons (tVar 9) tNil)) tNil)))))) (tRet (tC (.bl false)))
    tNext)))))
    (tRet (tC (.bl true)))))))))

section
variable {K : PySem.W.Frag} {w : World}
theorem vr_L_mixed (vs H Q E) (h : sp_L_mixed vs H Q E) : rd_L_mixed { nx := fun _ H' => Q .non H', rt := Q } (start ["_law_number", "_law_k"] vs) H := by
  obtain ⟨n, k, rfl, hk, q⟩ := h
  unfold rd_L_mixed
  walk_at "zz"
  exact RetV.go q (Ex.refl H)
def letL : List Nat := (List.range 26).map (· + 97)
theorem let_str : (Str.ofString "abcdefghijklmnopqrstuvwxyz" : Str) = S letL := by decide +kernel
theorem let_ok : okT (Str.ofString "abcdefghijklmnopqrstuvwxyz") 26 := okT.of _ (by decide +kernel)
/-- the sign at a place, by rests -/
def sg (z : Str) (i : Int) : Nat := (atI z.cps.toList (i % z.length)).getD 0
theorem sg_at {z : Str} (h : 0 < z.length) (i : Int) : atI z.cps.toList (i % z.length) = some (sg z i) ∧ sg z i ∈ z.cps.toList := by
  have e : z.cps.toList.length = z.length := Array.length_toList
  obtain ⟨c, h1, h2⟩ := at_some (l := z.cps.toList) (i := i % z.length) (Int.emod_nonneg _ (by omega)) (by rw [e]; exact Int.emod_lt_of_pos _ (by omega))
  unfold sg
  rw [h1]
  exact ⟨rfl, h2⟩
theorem let26 : (Str.ofString "abcdefghijklmnopqrstuvwxyz" : Str).length = 26 := by decide +kernel
theorem let_at (i : Int) : atI (Str.ofString "abcdefghijklmnopqrstuvwxyz" : Str).cps.toList (i % 26) = some (sg (Str.ofString "abcdefghijklmnopqrstuvwxyz") i) ∧ sg (Str.ofString "abcdefghijklmnopqrstuvwxyz") i ∈ (Str.ofString "abcdefghijklmnopqrstuvwxyz" : Str).cps.toList := by
  have := sg_at (z := Str.ofString "abcdefghijklmnopqrstuvwxyz") (by rw [let26]; decide) i
  rw [let26] at this
  exact this
theorem let_occ : ∀ i ∈ List.range 26, Builtin.Str.occurrences (Str.ofString "abcdefghijklmnopqrstuvwxyz") ⟨#[i + 97]⟩ 0 (Str.ofString "abcdefghijklmnopqrstuvwxyz" : Str).length 1 = [i] := by decide +kernel
theorem let_mem {c : Nat} (h : c ∈ (Str.ofString "abcdefghijklmnopqrstuvwxyz" : Str).cps.toList) : ∃ i, i < 26 ∧ c = i + 97 := by
  rw [let_str, S_tl] at h
  obtain ⟨i, hi, rfl⟩ := List.mem_map.mp h
  exact ⟨i, List.mem_range.mp hi, rfl⟩
theorem given_strs (zs : List Str) (f : Nat → Bool) : ∃ zs' : List Str, Evl.given zs.length f (fun i => (zs.map V.str).getD i .non) = zs'.map V.str ∧ ∀ z ∈ zs', z ∈ zs := by
  refine ⟨((List.range zs.length).filter f).map fun i => zs.getD i ⟨#[]⟩, ?_, fun z hz => ?_⟩
  · unfold Evl.given
    rw [List.map_map]
    refine List.map_congr_left fun i hi => ?_
    have hl : i < zs.length := List.mem_range.mp (List.mem_filter.mp hi).1
    simp [hl]
  · obtain ⟨i, hi, rfl⟩ := List.mem_map.mp hz
    have hl : i < zs.length := List.mem_range.mp (List.mem_filter.mp hi).1
    rw [List.getD_eq_getElem?_getD, List.getElem?_eq_getElem hl]
    exact List.getElem_mem hl
theorem strs_flat (zs : List Str) : (zs.map V.str).all flatV = true := by
  rw [List.all_map]
  exact List.all_eq_true.mpr fun _ _ => rfl
theorem told_split : (Txt.split (Str.ofString "part in out wire rest let use table memory if then else cut join fill") (Str.ofString " ")) = M03.toldL.map S := by decide +kernel
theorem vr_L_names (vs H Q E) (h : sp_L_names K vs H Q E) : (rd_L_names K) { nx := fun _ H' => Q .non H', rt := Q } (start ["_law_number", "_law_letters", "_law_word_here", "_law_size", "_law_at", "_law_signs", "_law_some", "_law_found", "_law_spot", "_law_other", "_law_told", "_law_j", "_law_k", "_law_sign", "_law_name"] vs) H := by
  obtain ⟨n, rfl, hn, q⟩ := h
  unfold rd_L_names
  refine z_seq (z_asg (z_c (z_gname ?_)))
  refine z_seq ?_
  walk_at "zz"
  refine z_CR1 ⟨by decide, by decide⟩ (fun _ => true) (fun k => .str ⟨#[sg (Str.ofString "abcdefghijklmnopqrstuvwxyz") (mixN n k)]⟩) (fun _ => rfl) (fun i H' hi e => fun H2 e2 Q' q' => q' _ (Ex.refl _)) (fun i H' hi e _ => fun H2 e2 Q' q' => ?_) (fun p H1 hp e1 h1 => ?_)
  · walk_at "zz"
    refine ⟨n, i, rfl, ⟨by omega, by omega⟩, fun H3 e3 => ?_⟩
    walk_at "zz"
    refine z_ixS (szl (by decide +kernel)) (let_at _).1 ?_
    exact q' _ e3
  rw [given_all] at h1
  walk_at "zz"
  refine z_join1 (n := 8) (f := fun k => sg (Str.ofString "abcdefghijklmnopqrstuvwxyz") (mixN n k)) h1 (by decide) ?_
  have okB : okT (S ((List.range 8).map fun k : Nat => sg (Str.ofString "abcdefghijklmnopqrstuvwxyz") (mixN n k))) 8 := by
    refine okT.S (by simp) fun c hc => ?_
    obtain ⟨k, _, rfl⟩ := List.mem_map.mp hc
    exact let_ok.2 _ (let_at _).2
  have headB : ∃ i r, i < 26 ∧ (S ((List.range 8).map fun k : Nat => sg (Str.ofString "abcdefghijklmnopqrstuvwxyz") (mixN n k))).cps.toList = (i + 97) :: r := by
    obtain ⟨i, hi, e⟩ := let_mem (let_at (mixN n (0 : Nat))).2
    refine ⟨i, ((List.range 8).map fun k : Nat => sg (Str.ofString "abcdefghijklmnopqrstuvwxyz") (mixN n k)).tail, hi, ?_⟩
    rw [S_tl, ← e]
    rfl
  generalize S ((List.range 8).map fun k : Nat => sg (Str.ofString "abcdefghijklmnopqrstuvwxyz") (mixN n k)) = B at okB headB ⊢
  refine z_gname ?_
  refine z_cut (fun σ' H' => ∃ (y3 y4 y5 y6 y8 y9 y10 y11 y12 y13 y14 : Option V) (p : Addr) (zs : List Str), σ' = [some (.int n), some (.str (Str.ofString "abcdefghijklmnopqrstuvwxyz")), some (.str B), y3, y4, y5, y6, some (.ref p), y8, y9, y10, y11, y12, y13, y14] ∧ Ex H H' ∧ H p = none ∧ H' p = some (.lst (zs.map V.str)) ∧ zs.length = 16 ∧ ∀ z ∈ zs, okT z 20) ?_ (fun σ' H' hm => ?_)
  · walk_at "zz"
    refine ite_b (fun _ => ?_) (fun _ => ?_)
    · walk_at "zz"
      generalize hat : n / 32 % (2 + n / 4 % 7) = at_
      refine z_cut (fun σ' H' => ∃ z, okT z 36 ∧ 0 < z.length ∧ σ' = [some (.int n), some (.str (Str.ofString "abcdefghijklmnopqrstuvwxyz")), some (.str B), some (.int (2 + n / 4 % 7)), some (.int at_), some (.str z), none, none, none, none, none, none, none, none, none] ∧ H' = H1) ?_ (fun σ' H' hm => ?_)
      · walk_at "zz"
        refine ite_b (fun _ => ?_) (fun _ => ?_)
        · walk_at "zz"
          exact ⟨_, let_ok.mono (by decide), by rw [let26]; decide, rfl, rfl⟩
        · walk_at "zz"
          refine z_addS (szl (by decide +kernel)) ?_
          walk_at "zz"
          exact ⟨_, let_ok.app (okT.of "0123456789" (n := 10) (by decide +kernel)), by rw [txt_app_len, let26]; omega, rfl, rfl⟩
      obtain ⟨z, okz, z0, rfl, rfl⟩ := hm
      walk_at "zz"
      refine z_CR1 ⟨by decide, by decide⟩ (fun _ => true) (fun k => .str ⟨#[sg z (n / 256 + 5 * (k : Int))]⟩) (fun _ => rfl) (fun i H4 hi e4 => fun H5 e5 Q' q' => q' _ (Ex.refl _)) (fun i H4 hi e4 _ => fun H5 e5 Q' q' => ?_) (fun p2 H4 hp2 e4 h4 => ?_)
      · walk_at "zz"
        refine z_lenS (okz.sz (by decide)) ?_
        refine z_i (show (0 : Int) < _ by omega) ?_
        refine z_ixS (okz.sz (by decide)) (sg_at z0 _).1 ?_
        exact q' _ (Ex.refl _)
      rw [given_all, show ((16 : Int).toNat) = 16 from rfl] at h4
      walk_at "zz"
      refine z_CL (xs := (List.range 16).map fun k : Nat => V.str ⟨#[sg z (n / 256 + 5 * (k : Int))]⟩) (sq_of h4) (by simp) (fun _ => true) (fun k => .str (cutS B none (some at_) ++ ⟨#[sg z (n / 256 + 5 * (k : Int))]⟩ ++ cutS B (some (at_ + 1)) (some (2 + n / 4 % 7)))) (fun _ => rfl) (fun i x H5 hi hx e5 => fun H6 e6 Q' q' => q' _ (Ex.refl _)) (fun i x H5 hi hx e5 _ => fun H6 e6 Q' q' => ?_) (fun p3 H5 hp3 e5 h5 => ?_)
      · have hi' : i < 16 := by simpa using hi
        rw [List.getElem?_map, List.getElem?_range hi'] at hx
        obtain rfl := Option.some.inj hx
        have o1 := (okB.cut none (some at_)).app (okT.one okz (sg_at z0 (n / 256 + 5 * (i : Int))).2)
        have o2 := o1.app (okB.cut (some (at_ + 1)) (some (2 + n / 4 % 7)))
        walk_at "zz"
        refine z_slS (okB.sz (by decide)) ?_
        walk_at "zz"
        refine z_addS (by rw [← txt_app_len]; exact o1.sz (by decide)) ?_
        walk_at "zz"
        refine z_slS (okB.sz (by decide)) ?_
        refine z_addS (by rw [← txt_app_len]; exact o2.sz (by decide)) ?_
        exact q' _ (Ex.refl _)
      rw [given_all, List.length_map, List.length_range, show (fun k : Nat => V.str (cutS B none (some at_) ++ ⟨#[sg z (n / 256 + 5 * (k : Int))]⟩ ++ cutS B (some (at_ + 1)) (some (2 + n / 4 % 7)))) = V.str ∘ (fun k : Nat => cutS B none (some at_) ++ ⟨#[sg z (n / 256 + 5 * (k : Int))]⟩ ++ cutS B (some (at_ + 1)) (some (2 + n / 4 % 7))) from rfl, ← List.map_map] at h5
      walk_at "zz"
      refine ⟨_, _, _, _, _, _, _, _, _, _, _, p3, _, rfl, (e1.trans e4).trans e5, fresh_back (e1.trans e4) hp3, h5, by simp, fun u hu => ?_⟩
      obtain ⟨k, _, rfl⟩ := List.mem_map.mp hu
      exact (((okB.cut none (some at_)).app (okT.one okz (sg_at z0 (n / 256 + 5 * (k : Int))).2)).app (okB.cut (some (at_ + 1)) (some (2 + n / 4 % 7)))).mono (by decide)
    · walk_at "zz"
      refine ite_b (fun _ => ?_) (fun _ => ?_)
      · obtain ⟨i0, r0, hi0, hB⟩ := headB
        walk_at "zz"
        refine z_ixS (c := i0 + 97) (okB.sz (by decide)) (show atI _ ((0 : Nat) : Int) = _ from atI_nat (by rw [hB] <;> rfl)) ?_
        walk_at "zz"
        refine ⟨_, _, i0, [], rfl, rfl, let_occ i0 (List.mem_range.mpr hi0), ?_⟩
        walk_at "zz"
        refine z_ixS (szl (by decide +kernel)) (let_at _).1 ?_
        walk_at "zz"
        refine z_slS (okB.sz (by decide)) ?_
        have oA := (okT.one let_ok (let_at ((i0 : Int) + 1 + n / 4 % 25)).2).app (okB.cut (some 1) none)
        refine z_addS (by rw [← txt_app_len]; exact oA.sz (by decide)) ?_
        generalize (⟨#[sg (Str.ofString "abcdefghijklmnopqrstuvwxyz") ((i0 : Int) + 1 + n / 4 % 25)]⟩ : Str) ++ cutS B (some 1) none = A at oA ⊢
        walk_at "zz"
        refine z_CR1 ⟨by decide, by decide⟩ (fun _ => true) (fun k => .str (cutS B none (some ((k : Int) + 1)))) (fun _ => rfl) (fun i H4 hi e4 => fun H5 e5 Q' q' => q' _ (Ex.refl _)) (fun i H4 hi e4 _ => fun H5 e5 Q' q' => ?_) (fun p2 H4 hp2 e4 h4 => ?_)
        · walk_at "zz"
          refine z_slS (okB.sz (by decide)) ?_
          exact q' _ (Ex.refl _)
        rw [given_all] at h4
        walk_at "zz"
        refine z_CR1 ⟨by decide, by decide⟩ (fun _ => true) (fun k => .str (cutS A none (some ((k : Int) + 1)))) (fun _ => rfl) (fun i H5 hi e5 => fun H6 e6 Q' q' => q' _ (Ex.refl _)) (fun i H5 hi e5 _ => fun H6 e6 Q' q' => ?_) (fun p3 H5 hp3 e5 h5 => ?_)
        · walk_at "zz"
          refine z_slS (oA.sz (by decide)) ?_
          exact q' _ (Ex.refl _)
        rw [given_all] at h5
        refine z_cat (e5 _ _ h4) h5 (szl (by simp)) fun p4 hp4 => ?_
        have e6 : Ex H5 (upd H5 p4 (.lst ((List.range (8 : Int).toNat).map (fun k : Nat => V.str (cutS B none (some ((k : Int) + 1)))) ++ (List.range (8 : Int).toNat).map (fun k : Nat => V.str (cutS A none (some ((k : Int) + 1))))))) := Ex.new hp4
        have eA := ((e1.trans e4).trans e5).trans e6
        walk_at "zz"
        refine ⟨_, _, _, _, _, _, _, _, _, _, _, p4, (List.range 8).map (fun k : Nat => cutS B none (some ((k : Int) + 1))) ++ (List.range 8).map (fun k : Nat => cutS A none (some ((k : Int) + 1))), rfl, eA, fresh_back ((e1.trans e4).trans e5) hp4, ?_, by simp, fun u hu => ?_⟩
        · rw [upd_same, List.map_append, List.map_map, List.map_map] <;> rfl
        · rcases List.mem_append.mp hu with hu | hu
          · obtain ⟨k, _, rfl⟩ := List.mem_map.mp hu
            exact (okB.cut none _).mono (by decide)
          · obtain ⟨k, _, rfl⟩ := List.mem_map.mp hu
            exact (oA.cut none _).mono (by decide)
      · walk_at "zz"
        refine z_CR1 ⟨by decide, by decide⟩ (fun _ => true) (fun k => .str ⟨#[sg (Str.ofString "abcdefghijklmnopqrstuvwxyz") (n / 4 + 7 * (k : Int))]⟩) (fun _ => rfl) (fun i H4 hi e4 => fun H5 e5 Q' q' => q' _ (Ex.refl _)) (fun i H4 hi e4 _ => fun H5 e5 Q' q' => ?_) (fun p2 H4 hp2 e4 h4 => ?_)
        · walk_at "zz"
          refine z_ixS (szl (by decide +kernel)) (let_at _).1 ?_
          exact q' _ (Ex.refl _)
        rw [given_all, show ((16 : Int).toNat) = 16 from rfl, show (fun k : Nat => V.str ⟨#[sg (Str.ofString "abcdefghijklmnopqrstuvwxyz") (n / 4 + 7 * (k : Int))]⟩) = V.str ∘ (fun k : Nat => ⟨#[sg (Str.ofString "abcdefghijklmnopqrstuvwxyz") (n / 4 + 7 * (k : Int))]⟩) from rfl, ← List.map_map] at h4
        walk_at "zz"
        refine ⟨_, _, _, _, _, _, _, _, _, _, _, p2, _, rfl, e1.trans e4, fresh_back e1 hp2, h4, by simp, fun u hu => ?_⟩
        obtain ⟨k, _, rfl⟩ := List.mem_map.mp hu
        exact (okT.one let_ok (let_at _).2).mono (by decide)
  · obtain ⟨y3, y4, y5, y6, y8, y9, y10, y11, y12, y13, y14, p, zs, rfl, e, hp, hz, lz, oz⟩ := hm
    walk_at "zz"
    refine ⟨_, _, rfl, rfl, by decide +kernel, by decide +kernel, fun t ht => ?_⟩
    rw [told_split]
    have e1 : Ex H' (upd H' t (.lst ((M03.toldL.map S).map V.str))) := Ex.new ht
    have ut : upd H' t (.lst ((M03.toldL.map S).map V.str)) t = some (.lst ((M03.toldL.map S).map V.str)) := upd_same
    have hz1 := e1 _ _ hz
    generalize upd H' t (.lst ((M03.toldL.map S).map V.str)) = H1 at e1 ut hz1 ⊢
    walk_at "zz"
    refine z_CL (xs := zs.map V.str) (sq_of hz1) (by rw [List.length_map, lz]; decide) (fun i => inV ((zs.map V.str).getD i .non) ((M03.toldL.map S).map V.str)) (fun i => (zs.map V.str).getD i .non) (fun _ => rfl) (fun i x H2 hi hx e2 => fun H3 e3 Q' q' => ?_) (fun i x H2 hi hx e2 _ => fun H3 e3 Q' q' => ?_) (fun g H2 hg e2 h2 => ?_)
    · have ex : (zs.map V.str).getD i .non = x := by rw [List.getD_eq_getElem?_getD, hx] <;> rfl
      obtain ⟨z, _, rfl⟩ := List.mem_map.mp (List.mem_of_getElem? hx)
      walk_at "zz"
      refine z_inL (sq_of (e3 _ _ (e2 _ _ ut))) rfl (strs_flat _) ?_
      walk_at "zz"
      have := q' H3 (Ex.refl _)
      rw [ex] at this
      exact this
    · have ex : (zs.map V.str).getD i .non = x := by rw [List.getD_eq_getElem?_getD, hx] <;> rfl
      rw [ex] at q'
      walk_at "zz"
      exact q' H3 (Ex.refl _)
    rw [List.length_map] at h2
    obtain ⟨zs', e', m'⟩ := given_strs zs fun i => inV ((zs.map V.str).getD i .non) ((M03.toldL.map S).map V.str)
    rw [e'] at h2
    obtain ⟨d1, d2, d3⟩ := strs_dp (K := K) (H := H2) fun z hz => ⟨20, oz z (m' z hz)⟩
    walk_at "zz"
    refine ⟨szl (by simp), fun c hc => ?_⟩
    have ec : Ex H2 (upd H2 c (.lst [])) := Ex.new hc
    refine z_neNil (sq_of (ec _ _ h2)) (dpAll_mono ec d1) (sq_of upd_same) d2 (by omega) ?_
    have eA := ((e.trans e1).trans e2).trans ec
    walk_at "zz"
    refine ite_b (fun _ => ?_) (fun _ => ?_)
    · walk_at "zz"
      refine z_CR1 ⟨by decide, by decide⟩ (fun _ => true) (fun k => .str (Str.ofString "q" ++ ⟨#[letL.getD k 0]⟩)) (fun _ => rfl) (fun i H4 hi e4 => fun H5 e5 Q' q' => q' _ (Ex.refl _)) (fun i H4 hi e4 _ => fun H5 e5 Q' q' => ?_) (fun p2 H4 hp2 e4 h4 => ?_)
      · walk_at "zz"
        have hi' : i < 16 := hi
        refine z_ixS (szl (by decide +kernel)) (show atI _ ((i : Nat) : Int) = some (letL.getD i 0) from atI_nat ?_) ?_
        · rw [let_str, S_tl, List.getD_eq_getElem?_getD, List.getElem?_eq_getElem (show i < letL.length by simp [letL]; omega)] <;> rfl
        refine z_addS (szl (by rw [show (Str.ofString "q" : Str).length = 1 by decide +kernel]; exact (show 1 + 1 ≤ 1000 by decide))) ?_
        exact q' _ (Ex.refl _)
      · rw [given_all, show ((16 : Int).toNat) = 16 from rfl, show (fun k : Nat => V.str (Str.ofString "q" ++ ⟨#[letL.getD k 0]⟩)) = V.str ∘ (fun k : Nat => Str.ofString "q" ++ ⟨#[letL.getD k 0]⟩) from rfl, ← List.map_map] at h4
        refine (q _ (by simp) fun z hz => ?_).go eA hp2 e4 h4
        obtain ⟨k, hk, rfl⟩ := List.mem_map.mp hz
        have hk' := List.mem_range.mp hk
        refine ((okT.of "q" (n := 1) (by decide +kernel)).app (okT.one let_ok ?_)).mono (by decide)
        rw [let_str, S_tl, List.getD_eq_getElem?_getD, List.getElem?_eq_getElem (show k < letL.length by simp [letL]; omega)]
        exact List.getElem_mem _
    · walk_at "zz"
      have := ec _ _ (e2 _ _ hz1)
      exact q zs lz oz p _ hp eA this
theorem vr_L_cell (vs H Q E) (h : sp_L_cell K vs H Q E) : (rd_L_cell K) { nx := fun _ H' => Q .non H', rt := Q } (start ["_law_script", "_law_k", "_law_cell_here"] vs) H := by
  obtain ⟨a, ns, k, rfl, ha, hk, q⟩ := h
  unfold rd_L_cell
  unfold cellN at q
  walk_at "zz"
  refine z_lenL ha ?_
  walk_at "zz"
  rw [List.length_map]
  refine ite_b (fun h => ?_) (fun h => ?_)
  · have hl : (0 : Int) < (ns.length : Int) := of_decide_eq_true h
    rw [if_pos (by omega)] at q
    walk_at "zz"
    refine z_lenL ha ?_
    rw [List.length_map]
    walk_at "zz"
    have h1 := Int.emod_nonneg k (show (ns.length : Int) ≠ 0 by omega)
    have h2 := Int.emod_lt_of_pos k hl
    obtain ⟨j, hj⟩ := Int.eq_ofNat_of_zero_le h1
    have jl : j < ns.length := by omega
    rw [hj, Int.toNat_natCast] at q
    rw [hj]
    refine z_ixL ha (v := .int (ns.getD j 0)) (atI_nat (by rw [List.getElem?_map, List.getD_eq_getElem?_getD, List.getElem?_eq_getElem jl] <;> rfl)) ?_
    walk_at "zz"
    exact RetV.go q (Ex.refl H)
  · have hl : ¬ (0 : Int) < (ns.length : Int) := of_decide_eq_false h
    rw [if_neg (by omega)] at q
    walk_at "zz"
    exact RetV.go q (Ex.refl H)
/-- a list of numbers stays where another thing is written -/
theorem sq_other {H : Hp} {a d : Addr} {ns : List Int} {y : V} {r : List V} {o : HO} (h : SqL K H a (ns.map V.int)) (hd : H d = some (.lst (.ref a :: y :: r))) : SqL K (upd H d o) a (ns.map V.int) := by
  rcases h with h | h
  · have ne : a ≠ d := fun z => by
      subst z
      rcases h with h | ⟨ob, h⟩
      · rw [hd] at h
        have h' := HO.lst.inj (Option.some.inj h)
        cases ns with
        | nil => cases h'
        | cons i r => cases h'
      · rw [hd] at h
        cases h
    refine .inl ?_
    rcases h with h | ⟨ob, h⟩
    · exact .inl (by rw [upd_ne ne]; exact h)
    · exact .inr ⟨ob, by rw [upd_ne ne]; exact h⟩
  · exact .inr h
theorem vr_L_next (vs H Q E) (h : sp_L_next K vs H Q E) : (rd_L_next K) { nx := fun _ H' => Q .non H', rt := Q } (start ["_law_draw"] vs) H := by
  obtain ⟨d, a, ns, k, rfl, ⟨hd, ha⟩, hk, q⟩ := h
  unfold rd_L_next
  walk_at "zz"
  refine z_ixL (sq_of hd) (show atI _ ((1 : Nat) : Int) = some (.int (k : Int)) from atI_nat rfl) ?_
  walk_at "zz"
  refine ⟨d, _, 1, 1, rfl, rfl, hd, rfl, ?_⟩
  have eS : ([.ref a, .int (k : Int)] : List V).set 1 (.int ((k : Int) + 1)) = [.ref a, .int ((k + 1 : Nat) : Int)] := rfl
  rw [eS]
  have ud : upd H d (.lst [.ref a, .int ((k + 1 : Nat) : Int)]) d = some (.lst [.ref a, .int ((k + 1 : Nat) : Int)]) := upd_same
  have sa := sq_other (o := .lst [.ref a, .int ((k + 1 : Nat) : Int)]) ha hd
  walk_at "zz"
  refine z_ixL (sq_of ud) (show atI _ ((0 : Nat) : Int) = some (.ref a) from atI_nat rfl) ?_
  walk_at "zz"
  refine z_ixL (sq_of ud) (show atI _ ((1 : Nat) : Int) = some (.int ((k + 1 : Nat) : Int)) from atI_nat rfl) ?_
  walk_at "zz"
  refine ⟨a, ns, ((k + 1 : Nat) : Int), rfl, sa, ⟨by omega, by omega⟩, fun H2 e2 => ?_⟩
  obtain ⟨b0, b1⟩ := cellN_b ns ((k + 1 : Nat) : Int)
  exact q _ H2 b0 b1 ⟨e2 _ _ ud, ex_l e2 sa⟩ ((But.put (by simp)).trans (But.ex e2))
theorem sN_b (n : Int) : ∀ i : Nat, 0 ≤ sN n i ∧ sN n i < 2 ^ (25 * i)
  | 0 => ⟨Int.le_refl 0, (by show (0 : Int) < 2 ^ 0; decide)⟩
  | i + 1 => by
    obtain ⟨h0, h1⟩ := sN_b n i
    obtain ⟨m0, m1⟩ := mixN_b n (i : Int)
    obtain ⟨x, hx⟩ := Int.eq_ofNat_of_zero_le h0
    obtain ⟨m, hm⟩ := Int.eq_ofNat_of_zero_le m0
    have e : sN n (i + 1) = ((x * 2 ^ 25 ||| m : Nat) : Int) := by
      show Builtin.bitOr (sN n i * 2 ^ (25 : Int).toNat) (mixN n (i : Int)) = _
      rw [hx, hm, show (x : Int) * 2 ^ (25 : Int).toNat = ((x * 2 ^ 25 : Nat) : Int) by rw [Int.natCast_mul] <;> rfl]
      exact bitOr_nn (Int.natCast_nonneg _) (Int.natCast_nonneg _)
    rw [e]
    have hx1 : x < 2 ^ (25 * i) := by
      rw [hx] at h1
      exact_mod_cast h1
    have hm1 : m < 2 ^ 25 := by
      rw [hm] at m1
      have : m < 33554432 := by omega
      exact this
    refine ⟨Int.natCast_nonneg _, ?_⟩
    have k : x * 2 ^ 25 ||| m < 2 ^ (25 * (i + 1)) := by
      refine Nat.or_lt_two_pow ?_ (Nat.lt_of_lt_of_le hm1 (Nat.pow_le_pow_right (by decide) (by omega)))
      rw [show 25 * (i + 1) = 25 * i + 25 by omega, Nat.pow_add]
      exact Nat.mul_lt_mul_of_pos_right hx1 (by decide)
    exact_mod_cast k
theorem maskI (i : Int) (w : Nat) : Builtin.bitAnd i (1 * 2 ^ ((w : Nat) : Int).toNat - 1) = i % 2 ^ w := by
  rw [Int.one_mul, Int.toNat_natCast]
  exact PySem.W.kbt_mask i w
theorem vr_L_word (vs H Q E) (h : sp_L_word vs H Q E) : (rd_L_word K) { nx := fun _ H' => Q .non H', rt := Q } (start ["_law_number", "_law_width", "_law_top", "_law_some", "_law_k"] vs) H := by
  obtain ⟨n, w, rfl, hn, ⟨hw1, hw⟩, q⟩ := h
  unfold rd_L_word
  walk_at "zz"
  refine z_i (show CShl 1 (w : Int) from ⟨by omega, by have := intBits_le_64 (k := 1) (by decide) (by decide); omega⟩) ?_
  walk_at "zz"
  refine z_FR1 (by decide) (fun i σ' H' => ∃ y4, σ' = [some (.int n), some (.int (w : Int)), some (.int (1 * 2 ^ ((w : Nat) : Int).toNat - 1)), some (.int (sN n i)), y4] ∧ Ex H H') ⟨none, rfl, Ex.refl H⟩ (fun i σ' H' hi h => ?_) (fun σ' H' h => ?_)
  · obtain ⟨y4, rfl, e⟩ := h
    have hi' : i < 3 := hi
    obtain ⟨b0, b1⟩ := sN_b n i
    have b2 : sN n i < 2 ^ 64 := Int.lt_of_lt_of_le b1 (by
      have : (2 : Int) ^ (25 * i) = ((2 ^ (25 * i) : Nat) : Int) := by simp
      rw [this]
      have : 2 ^ (25 * i) ≤ 2 ^ 64 := Nat.pow_le_pow_right (by decide) (by omega)
      exact_mod_cast this)
    walk_at "zz"
    refine z_i (show CShl (sN n i) 25 from ⟨by decide, by have := intBits_le_64 (k := sN n i) (by omega) b2; omega⟩) ?_
    walk_at "zz"
    refine ⟨n, i, rfl, ⟨by omega, by omega⟩, fun H2 e2 => ?_⟩
    walk_at "zz"
    exact ⟨_, rfl, e.trans e2⟩
  · obtain ⟨y4, rfl, e⟩ := h
    walk_at "zz"
    refine ⟨szl (by simp), fun p hp => ?_⟩
    walk_at "zz"
    rw [maskI, maskI, show ((3 : Int).toNat) = 3 from rfl]
    have top : (1 : Int) * 2 ^ ((w : Nat) : Int).toNat - 1 = 2 ^ w - 1 := by rw [Int.one_mul, Int.toNat_natCast]
    rw [top]
    have hq : ∀ v, v = wordN n w → atI [V.int 0, V.int (2 ^ w - 1), V.int (sN n 3 % 2 ^ w), V.int 1, V.int (sN n 3 % 2 ^ w), V.int (2 ^ w - 1 - 1), V.int (sN n 3 % 2 ^ w), V.int (sN n 3 % 4 % 2 ^ w)] (n % 8) = some (.int v) → rIxL K (.ref p) (.int (n % 8)) (upd H' p (.lst [V.int 0, V.int (2 ^ w - 1), V.int (sN n 3 % 2 ^ w), V.int 1, V.int (sN n 3 % 2 ^ w), V.int (2 ^ w - 1 - 1), V.int (sN n 3 % 2 ^ w), V.int (sN n 3 % 4 % 2 ^ w)])) Q := fun v hv h => by
      subst hv
      exact z_ixL (sq_of upd_same) h (RetV.go q (e.trans (Ex.new hp)))
    refine hq (wordN n w) rfl ?_
    unfold wordN
    obtain ⟨j, hj⟩ := Int.eq_ofNat_of_zero_le (show 0 ≤ n % 8 by omega)
    have hj8 : j < 8 := by omega
    rw [hj, Int.toNat_natCast]
    refine atI_nat ?_
    match j, hj8 with
    | 0, _ => rfl
    | 1, _ => rfl
    | 2, _ => rfl
    | 3, _ => rfl
    | 4, _ => rfl
    | 5, _ => rfl
    | 6, _ => rfl
    | 7, _ => rfl
theorem vs0 (r : Rw) : r.vs[0]? = some (.str r.kind) := rfl
theorem vs1 (r : Rw) : r.vs[1]? = some (vi r.w) := rfl
theorem its_at {H : Hp} {xs : List V} {ys : List (List V)} {i : Nat} (h : ItsAt H xs ys) (hi : i < ys.length) : ∃ t, xs[i]? = some (.ref t) ∧ H t = some (.tup ys[i]) := by
  have hi' : i < xs.length := by rw [h.1]; exact hi
  obtain ⟨t, e, g⟩ := h.2 i xs[i] ys[i] (List.getElem?_eq_getElem hi') (List.getElem?_eq_getElem hi)
  exact ⟨t, by rw [List.getElem?_eq_getElem hi', e], g⟩
theorem its_mono {H H' : Hp} {xs : List V} {ys : List (List V)} (e : Ex H H') (h : ItsAt H xs ys) : ItsAt H' xs ys := ⟨h.1, fun j x y hx hy => by
  obtain ⟨t, z, g⟩ := h.2 j x y hx hy
  exact ⟨t, z, e _ _ g⟩⟩
theorem rows_at {H : Hp} {xs : List V} {rs : List Rw} {i : Nat} (h : ItsAt H xs (rs.map Rw.vs)) (hi : i < rs.length) : ∃ t, xs[i]? = some (.ref t) ∧ H t = some (.tup rs[i].vs) := by
  obtain ⟨t, a, b⟩ := its_at h (i := i) (by rw [List.length_map]; exact hi)
  refine ⟨t, a, ?_⟩
  rw [b, List.getElem_map]
theorem wAt_get {rs : List Rw} {i : Nat} (hi : i < rs.length) : wAt rs i = rs[i].w := by
  unfold wAt
  rw [List.getElem?_map, List.getElem?_eq_getElem hi] <;> rfl
theorem given_mem {n : Nat} {f : Nat → Bool} {v : Nat → V} {x : V} (h : x ∈ Evl.given n f v) : ∃ i, i < n ∧ f i = true ∧ x = v i := by
  obtain ⟨i, hi, rfl⟩ := List.mem_map.mp h
  obtain ⟨h1, h2⟩ := List.mem_filter.mp hi
  exact ⟨i, List.mem_range.mp h1, h2, rfl⟩
theorem given_in {n i : Nat} {f : Nat → Bool} {v : Nat → V} (hi : i < n) (hf : f i = true) : v i ∈ Evl.given n f v := List.mem_map.mpr ⟨i, List.mem_filter.mpr ⟨List.mem_range.mpr hi, hf⟩, rfl⟩
theorem cutV_mem {xs : List V} {lo hi : Option Int} {x : V} (h : x ∈ cutV xs lo hi) : x ∈ xs := List.mem_of_mem_drop (List.mem_of_mem_take h)
theorem cutV_last (xs : List V) : cutV xs (some (-3)) none = xs.drop (xs.length - 3) := by
  unfold cutV
  rw [HT.sIx_none]
  have e : HT.sIx xs.length 0 (some (-3)) = xs.length - 3 := by
    show (if (-3 : Int) < 0 then ((-3 : Int) + (xs.length : Int)).toNat else min (-3 : Int).toNat xs.length) = _
    rw [if_pos (by decide)]
    omega
  rw [e, List.take_of_length_le (by rw [List.length_drop]; omega)]
theorem vr_L_of_width (vs H Q E) (h : sp_L_of_width K vs H Q E) : (rd_L_of_width K) { nx := fun _ H' => Q .non H', rt := Q } (start ["_law_rows", "_law_width", "_law_number", "_law_some", "_law_k", "_law_row"] vs) H := by
  obtain ⟨p, xs, rs, w, n, rfl, hp, hx, ⟨i0, hi0, hw0⟩, hn, hl, q⟩ := h
  unfold rd_L_of_width
  have lx : xs.length = rs.length := by rw [hx.1, List.length_map]
  walk_at "zz"
  refine z_CE (sq_of hp) (by omega) (fun i => decide (wAt rs i = w)) (fun i => vi i) (fun _ _ => rfl) (fun i x H' hi ex e => fun H1 e1 Q' q' => ?_) (fun i x H' hi ex e hf => fun H1 e1 Q' q' => ?_) (fun D H1 hD e1 h1 => ?_)
  · obtain ⟨t, et, ht⟩ := rows_at hx (i := i) (by omega)
    rw [ex] at et
    cases et
    walk_at "zz"
    refine z_ixT (st_of ((e.trans e1) _ _ ht)) (show atI _ ((1 : Nat) : Int) = _ from atI_nat (vs1 _)) ?_
    walk_at "zz"
    rw [show decide (vi rs[i].w = vi w) = decide (wAt rs i = w) by
      rw [wAt_get (by omega)]
      exact decide_eq_decide.mpr ⟨fun z => by injection z with z; omega, fun z => by rw [z]⟩]
    exact q' _ (Ex.refl _)
  · walk_at "zz"
    exact q' _ (Ex.refl _)
  walk_at "zz"
  have mem : ∀ x ∈ Evl.given xs.length (fun i => decide (wAt rs i = w)) (fun i => vi i), ∃ i, i < rs.length ∧ wAt rs i = w ∧ x = vi i := fun x hm => by
    obtain ⟨i, a, b, c⟩ := given_mem hm
    exact ⟨i, by omega, of_decide_eq_true b, c⟩
  have ne : Evl.given xs.length (fun i => decide (wAt rs i = w)) (fun i => vi i) ≠ [] := fun z => by
    have := given_in (n := xs.length) (f := fun i => decide (wAt rs i = w)) (v := fun i => vi i) (i := i0) (by omega) (decide_eq_true hw0)
    rw [z] at this
    cases this
  have fin : ∀ (D2 : Addr) (l : List V) (H2 : Hp), Ex H H2 → SqL K H2 D2 l → l ≠ [] → (∀ x ∈ l, ∃ i, i < rs.length ∧ wAt rs i = w ∧ x = vi i) → rIxL K (.ref D2) (.int (n / 2 % (l.length : Int))) H2 Q := fun D2 l H2 e2 hl2 hn2 hm2 => by
    have l0 : (0 : Int) < (l.length : Int) := by
      have := List.length_pos_iff.mpr hn2
      omega
    obtain ⟨v, hv, hm⟩ := at_some (l := l) (i := n / 2 % (l.length : Int)) (Int.emod_nonneg _ (by omega)) (Int.emod_lt_of_pos _ l0)
    obtain ⟨i, a, b, rfl⟩ := hm2 v hm
    exact z_ixL hl2 hv ((q i a b).go e2)
  generalize Evl.given xs.length (fun i => decide (wAt rs i = w)) (fun i => vi i) = L at h1 mem ne
  have lp : (0 : Int) < (L.length : Int) := by
    have := List.length_pos_iff.mpr ne
    omega
  refine ite_b (fun _ => ?_) (fun _ => ?_)
  · walk_at "zz"
    refine z_slL (sq_of h1) fun D2 hD2 => ?_
    walk_at "zz"
    rw [cutV_last]
    refine z_lenL (sq_of upd_same) ?_
    have l2 : 0 < (L.drop (L.length - 3)).length := by
      rw [List.length_drop]
      omega
    refine z_i (show (0 : Int) < _ by omega) ?_
    exact fin D2 _ _ (e1.trans (Ex.new hD2)) (sq_of upd_same) (List.length_pos_iff.mp l2) fun x hm => mem x (List.mem_of_mem_drop hm)
  · walk_at "zz"
    refine z_lenL (sq_of h1) ?_
    refine z_i (show (0 : Int) < _ by omega) ?_
    exact fin D _ _ e1 (sq_of h1) ne mem
theorem ok_w {W : Wo} {rs : List Rw} {r : Rw} (h : r.ok W rs) : 1 ≤ r.w ∧ r.w ≤ 64 := by
  cases r <;> exact h.1
theorem Good.wd {W : Wo} {rs : List Rw} (g : Good W rs) {i : Nat} (hi : i < rs.length) : 1 ≤ wAt rs i ∧ wAt rs i ≤ 64 := by
  rw [wAt_get hi]
  exact ok_w (g.ok i _ (List.getElem?_eq_getElem hi))
theorem nat_of {i : Int} (h : 0 ≤ i) : ∃ n : Nat, i = (n : Int) := Int.eq_ofNat_of_zero_le h
theorem vr_L_parted (vs H Q E) (h : sp_L_parted K vs H Q E) : (rd_L_parted K) { nx := fun _ H' => Q .non H', rt := Q } (start ["_law_rows", "_law_one", "_law_way", "_law_more_here", "_law_wide", "_law_width", "_law_other"] vs) H := by
  obtain ⟨p, xs, W, rs, one, way, m, rfl, hp, hx, hg, ho, hm, hl, q⟩ := h
  unfold rd_L_parted
  have lx : xs.length = rs.length := by rw [hx.1, List.length_map]
  obtain ⟨w1, w64⟩ := hg.wd ho
  walk_at "zz"
  obtain ⟨t0, et0, ht0⟩ := rows_at hx ho
  refine z_ixL (sq_of hp) (atI_nat et0) ?_
  walk_at "zz"
  refine z_ixT (st_of ht0) (show atI _ ((1 : Nat) : Int) = _ from atI_nat (vs1 _)) ?_
  rw [← wAt_get ho]
  walk_at "zz"
  generalize hwo : wAt rs one = wo at w1 w64 ⊢
  have m0 := Int.emod_nonneg m (show (wo : Int) ≠ 0 by omega)
  have m1 := Int.emod_lt_of_pos m (show (0 : Int) < (wo : Int) by omega)
  refine ite_b (fun _ => ?_) (fun _ => ?_)
  · walk_at "zz"
    obtain ⟨c, hc⟩ := nat_of (show 0 ≤ 1 + m % (wo : Int) by omega)
    rw [hc]
    obtain ⟨l, hl2⟩ := nat_of (Int.emod_nonneg (m / 64) (show (wo : Int) - (c : Int) + 1 ≠ 0 by omega))
    have hl3 := Int.emod_lt_of_pos (m / 64) (show (0 : Int) < (wo : Int) - (c : Int) + 1 by omega)
    rw [hl2]
    refine ⟨szl (by simp), fun t ht => ?_⟩
    exact q (.cut c one l) t _ ⟨⟨by omega, by omega⟩, ho, by omega⟩ (Ex.new ht) upd_same
  · walk_at "zz"
    refine ite_b (fun _ => ?_) (fun _ => ?_)
    · walk_at "zz"
      have x0 : 0 ≤ m % 3 * (m / 3 % 20) := Int.mul_nonneg (by omega) (by omega)
      obtain ⟨v, hv⟩ := nat_of (show 0 ≤ (if (wo : Int) + m % 3 * (m / 3 % 20) < 64 then (wo : Int) + m % 3 * (m / 3 % 20) else 64) by split <;> omega)
      have hv2 : wo ≤ v ∧ v ≤ 64 := by
        generalize m % 3 * (m / 3 % 20) = z at x0 hv
        split at hv <;> omega
      rw [hv]
      refine ⟨szl (by simp), fun t ht => ?_⟩
      exact q (.fill v one) t _ ⟨⟨by omega, by omega⟩, ho, by omega⟩ (Ex.new ht) upd_same
    · walk_at "zz"
      refine z_lenL (sq_of hp) ?_
      rw [lx]
      obtain ⟨b, hb⟩ := nat_of (Int.emod_nonneg (m / 3) (show (rs.length : Int) ≠ 0 by omega))
      have hb2 : b < rs.length := by
        have := Int.emod_lt_of_pos (m / 3) (show (0 : Int) < (rs.length : Int) by omega)
        omega
      walk_at "zz"
      rw [hb]
      obtain ⟨t1, et1, ht1⟩ := rows_at hx hb2
      obtain ⟨b1, b64⟩ := hg.wd hb2
      refine z_ixL (sq_of hp) (atI_nat et1) ?_
      walk_at "zz"
      refine z_ixT (st_of ht1) (show atI _ ((1 : Nat) : Int) = _ from atI_nat (vs1 _)) ?_
      rw [← wAt_get hb2]
      walk_at "zz"
      refine ite_b (fun _ => ?_) (fun hgt => ?_)
      · walk_at "zz"
        refine ⟨szl (by simp), fun t ht => ?_⟩
        exact q (.nt wo one) t _ ⟨⟨by omega, by omega⟩, ho, hwo⟩ (Ex.new ht) upd_same
      · have hle := of_decide_eq_false hgt
        walk_at "zz"
        refine z_ixL (sq_of hp) (atI_nat et1) ?_
        walk_at "zz"
        refine z_ixT (st_of ht1) (show atI _ ((1 : Nat) : Int) = _ from atI_nat (vs1 _)) ?_
        rw [← wAt_get hb2]
        walk_at "zz"
        refine ⟨szl (by simp), fun t ht => ?_⟩
        refine q (.join (wo + wAt rs b) one b) t _ ⟨⟨by omega, by omega⟩, ⟨ho, hb2⟩, by omega⟩ (Ex.new ht) ?_
        rw [upd_same]
        show some (HO.tup [_, .int ((wo : Int) + (wAt rs b : Int)), _, _]) = some (HO.tup [_, .int ((wo + wAt rs b : Nat) : Int), _, _])
        rw [Int.natCast_add] <;> rfl
theorem wordN_b (n : Int) (w : Nat) (hw : 1 ≤ w) : ∃ x : Nat, wordN n w = (x : Int) ∧ x < 2 ^ w := by
  have p2 : (2 : Nat) ≤ 2 ^ w := by
    have := Nat.pow_le_pow_right (n := 2) (by decide) hw
    omega
  have pc : ((2 ^ w : Nat) : Int) = 2 ^ w := by simp
  have md : ∀ z : Int, ∃ x : Nat, z % 2 ^ w = (x : Int) ∧ x < 2 ^ w := fun z => by
    obtain ⟨x, hx⟩ := nat_of (Int.emod_nonneg z (show (2 : Int) ^ w ≠ 0 by rw [← pc]; omega))
    refine ⟨x, hx, ?_⟩
    have := Int.emod_lt_of_pos z (show (0 : Int) < 2 ^ w by rw [← pc]; omega)
    rw [hx, ← pc] at this
    omega
  unfold wordN
  split
  · exact ⟨0, rfl, by omega⟩
  · exact ⟨2 ^ w - 1, by rw [← pc]; omega, by omega⟩
  · exact ⟨1, rfl, by omega⟩
  · exact ⟨2 ^ w - 2, by rw [← pc]; omega, by omega⟩
  · exact md _
  · exact md _
theorem sg_at8 {j : Nat} (h : j < 8) : ∃ s, s < 7 ∧ atI [V.str "&", .str "|", .str "^", .str "+", .str "-", .str "==", .str "<", .str "+"] ((j : Nat) : Int) = some (.str (sg7 s)) := by
  match j, h with
  | 0, _ => exact ⟨0, by decide, atI_nat rfl⟩
  | 1, _ => exact ⟨1, by decide, atI_nat rfl⟩
  | 2, _ => exact ⟨2, by decide, atI_nat rfl⟩
  | 3, _ => exact ⟨3, by decide, atI_nat rfl⟩
  | 4, _ => exact ⟨4, by decide, atI_nat rfl⟩
  | 5, _ => exact ⟨5, by decide, atI_nat rfl⟩
  | 6, _ => exact ⟨6, by decide, atI_nat rfl⟩
  | 7, _ => exact ⟨3, by decide, atI_nat rfl⟩
theorem sg_in {s : Nat} (h : s < 7) : inV (.str (sg7 s)) [V.str "==", .str "<"] = decide (5 ≤ s) := by
  match s, h with
  | 0, _ => decide +kernel
  | 1, _ => decide +kernel
  | 2, _ => decide +kernel
  | 3, _ => decide +kernel
  | 4, _ => decide +kernel
  | 5, _ => decide +kernel
  | 6, _ => decide +kernel
theorem all_ints : ∀ L : List V, (∀ x ∈ L, ∃ i : Int, x = .int i) → ∃ ls : List Int, L = ls.map V.int
  | [], _ => ⟨[], rfl⟩
  | x :: L, h => by
    obtain ⟨i, rfl⟩ := h x List.mem_cons_self
    obtain ⟨ls, rfl⟩ := all_ints L fun y hy => h y (List.mem_cons_of_mem _ hy)
    exact ⟨i :: ls, rfl⟩
/-- tuples bear data, if what is in them does -/
theorem its_dp {H : Hp} {f : List V → List PyData} {ys : List (List V)} (hf : ∀ y ∈ ys, DpAll K H y (f y) ∧ clAll (f y) = true ∧ PyData.depthAll (f y) ≤ 3) : ∀ {xs : List V}, ItsAt H xs ys → DpAll K H xs (ys.map fun y => .tuple (f y)) ∧ clAll (ys.map fun y => .tuple (f y)) = true ∧ PyData.depthAll (ys.map fun y => .tuple (f y)) ≤ 4 := by
  induction ys with
  | nil =>
    intro xs h
    cases xs with
    | nil => exact ⟨.nil, rfl, Nat.zero_le _⟩
    | cons _ _ => exact absurd h.1 (by simp)
  | cons y ys ih =>
    intro xs h
    cases xs with
    | nil => exact absurd h.1 (by simp)
    | cons x xs =>
      obtain ⟨t, rfl, ht⟩ := h.2 0 x y rfl rfl
      obtain ⟨a, b, c⟩ := hf y List.mem_cons_self
      obtain ⟨a2, b2, c2⟩ := ih (fun z hz => hf z (List.mem_cons_of_mem _ hz)) ⟨by have := h.1; simpa using this, fun j x y hx hy => h.2 (j + 1) x y hx hy⟩
      refine ⟨.cons (.tup (st_of ht) a) a2, ?_, ?_⟩
      · show (clAll (f y) && clAll _) = true
        rw [b, b2] <;> rfl
      · show max (PyData.depthAll (f y) + 1) (PyData.depthAll _) ≤ 4
        omega
def okD : V → PyData
  | .int i => .int i
  | .str z => .str z
  | _ => .none
theorem str_cl {z : Str} {n : Nat} (h : okT z n) : cl (.str z) = true := by
  show PyData.strOk z = true
  rw [S_of z]
  exact strOk_S h.2
theorem mems_dp {H : Hp} {ms : List (Str × Nat × Nat)} (hm : ∀ p ∈ ms, okT p.1 30) {xs : List V} (h : ItsAt H xs (ms.map fun p => [.str p.1, vi p.2.1, vi p.2.2])) : ∃ ds, DpAll K H xs ds ∧ clAll ds = true ∧ PyData.depthAll ds ≤ 4 := by
  refine ⟨_, its_dp (f := fun y => y.map okD) (fun y hy => ?_) h⟩
  obtain ⟨p, hp, rfl⟩ := List.mem_map.mp hy
  refine ⟨.cons (.str _) (.cons (.int _) (.cons (.int _) .nil)), ?_, ?_⟩
  · show (cl (.str p.1) && (true && (true && true))) = true
    rw [str_cl (hm p hp)] <;> rfl
  · show max 0 (max 0 (max 0 0)) ≤ 3
    decide
theorem tabs_dp {H : Hp} : ∀ {ts : List (Nat × Addr × List Nat)}, (∀ p ∈ ts, H p.2.1 = some (.tup (p.2.2.map vi))) → ∀ {xs : List V}, ItsAt H xs (ts.map fun p => [vi p.1, .ref p.2.1]) → ∃ ds, DpAll K H xs ds ∧ clAll ds = true ∧ PyData.depthAll ds ≤ 4
  | [], _, xs, h => by
    cases xs with
    | nil => exact ⟨[], .nil, rfl, Nat.zero_le _⟩
    | cons _ _ => exact absurd h.1 (by simp)
  | p :: ts, ht, xs, h => by
    cases xs with
    | nil => exact absurd h.1 (by simp)
    | cons x xs =>
      obtain ⟨t, rfl, hx⟩ := h.2 0 x _ rfl rfl
      obtain ⟨ds, a2, b2, c2⟩ := tabs_dp (fun z hz => ht z (List.mem_cons_of_mem _ hz)) (xs := xs) ⟨by have := h.1; simpa using this, fun j x y hx hy => h.2 (j + 1) x y hx hy⟩
      have hp := ht p List.mem_cons_self
      have e : p.2.2.map vi = (p.2.2.map fun n : Nat => (n : Int)).map V.int := by rw [List.map_map] <;> rfl
      rw [e] at hp
      refine ⟨.tuple [.int p.1, .tuple ((p.2.2.map fun n : Nat => (n : Int)).map PyData.int)] :: ds, .cons (.tup (st_of hx) (.cons (.int _) (.cons (.tup (st_of hp) (dp_ints _)) .nil))) a2, ?_, ?_⟩
      · show ((true && (clAll _ && true)) && clAll ds) = true
        rw [cl_ints, b2] <;> rfl
      · show max (max 0 (max (PyData.depthAll _ + 1) 0) + 1) (PyData.depthAll ds) ≤ 4
        rw [depth_ints]
        omega
theorem vr_L_more (vs H Q E) (h : sp_L_more K vs H Q E) : (rd_L_more K) { nx := fun _ H' => Q .non H', rt := Q } (start ["_law_world", "_law_number", "_law_rows", "_law_way", "_law_more_here", "_law_one", "_law_wide", "_law_other", "_law_sign", "_law_lamps", "_law_k", "_law_row"] vs) H := by
  obtain ⟨wd, pw, A, W, rs, n, rfl, hW, hw, hg, hn, hl, q⟩ := h
  obtain ⟨xs, hp, hx⟩ := hW.l 0 (by decide)
  have hx : ItsAt H xs (rs.map Rw.vs) := hx
  have lx : xs.length = rs.length := by rw [hx.1, List.length_map]
  obtain ⟨i1, hi1, hw1⟩ := hg.one
  unfold rd_L_more
  walk_at "zz"
  refine ⟨_, .ref (A 0), rfl, dgK hW.d rfl, ?_⟩
  walk_at "zz"
  refine ⟨_, _, rfl, ?_⟩
  refine z_cut (fun σ' H' => ∃ one : Nat, one < rs.length ∧ H' = H ∧ σ' = [some (.ref wd), some (.int n), some (.ref (A 0)), some (.int (n % 12)), some (.int (n / 12)), some (vi one), none, none, none, none, none, none]) ?_ (fun σ' H' hm => ?_)
  · walk_at "zz"
    refine ite_b (fun _ => ?_) (fun _ => ?_)
    · walk_at "zz"
      refine z_lenL (sq_of hp) ?_
      rw [lx]
      walk_at "zz"
      refine z_lenL (sq_of hp) ?_
      rw [lx]
      have b1 := Int.emod_nonneg (n / 12 % 5) (show (rs.length : Int) ≠ 0 by omega)
      have b2 := Int.emod_lt_of_pos (n / 12 % 5) (show (0 : Int) < (rs.length : Int) by omega)
      walk_at "zz"
      obtain ⟨o, ho⟩ := nat_of (show 0 ≤ (rs.length : Int) - 1 - n / 12 % 5 % (rs.length : Int) by omega)
      exact ⟨o, by omega, rfl, by rw [ho] <;> rfl⟩
    · walk_at "zz"
      refine z_lenL (sq_of hp) ?_
      rw [lx]
      have b1 := Int.emod_nonneg (n / 12 / 15) (show (rs.length : Int) ≠ 0 by omega)
      have b2 := Int.emod_lt_of_pos (n / 12 / 15) (show (0 : Int) < (rs.length : Int) by omega)
      walk_at "zz"
      obtain ⟨o, ho⟩ := nat_of b1
      exact ⟨o, by omega, rfl, by rw [ho] <;> rfl⟩
  obtain ⟨one, ho, rfl, rfl⟩ := hm
  obtain ⟨t0, et0, ht0⟩ := rows_at hx ho
  obtain ⟨w1, w64⟩ := hg.wd ho
  walk_at "zz"
  refine z_ixL (sq_of hp) (atI_nat et0) ?_
  walk_at "zz"
  refine z_ixT (st_of ht0) (show atI _ ((1 : Nat) : Int) = _ from atI_nat (vs1 _)) ?_
  rw [← wAt_get ho]
  generalize hwo : wAt rs one = wo at w1 w64 ⊢
  walk_at "zz"
  have hm0 : 0 ≤ n / 12 / 60 ∧ n / 12 / 60 < 33554432 / 720 + 1 := by omega
  generalize n / 12 / 60 = m at hm0 ⊢
  -- a row of a width: its place
  have ofw : ∀ (w : Nat) (z : Int) (H1 : Hp) (Q1 : VK), Ex H' H1 → (0 ≤ z ∧ z < 33554432) → (∃ i, i < rs.length ∧ wAt rs i = w) → (∀ (b : Nat) H2, b < rs.length → wAt rs b = w → Ex H1 H2 → Q1 (vi b) H2) → sp_L_of_width K [.ref (A 0), vi w, .int z] H1 Q1 E0 := fun w z H1 Q1 e hz hi hq =>
    ⟨A 0, xs, rs, w, z, rfl, e _ _ hp, its_mono e hx, hi, hz, hl, fun b hb hw => fun H2 e2 => hq b H2 hb hw e2⟩
  refine ite_b (fun _ => ?_) (fun _ => ?_)
  · walk_at "zz"
    refine ofw _ _ _ _ (Ex.refl _) (by omega) ⟨one, ho, hwo⟩ fun b H2 hb hwb e2 => ?_
    walk_at "zz"
    refine ⟨szl (by simp), fun p1 hp1 => ?_⟩
    walk_at "zz"
    obtain ⟨j, hj⟩ := nat_of (show 0 ≤ m % 8 by omega)
    obtain ⟨s, hs, es⟩ := sg_at8 (j := j) (by omega)
    rw [← hj] at es
    refine z_ixL (sq_of upd_same) es ?_
    walk_at "zz"
    refine ⟨szl (by simp), fun p2 hp2 => ?_⟩
    have e3 := (e2.trans (Ex.new (o := .lst [.str "&", .str "|", .str "^", .str "+", .str "-", .str "==", .str "<", .str "+"]) hp1)).trans (Ex.new (o := .tup [.str "==", .str "<"]) hp2)
    walk_at "zz"
    refine z_inT (st_of upd_same) rfl rfl ?_
    rw [show (if false = true then !inV (.str (sg7 s)) [V.str "==", .str "<"] else inV (.str (sg7 s)) [V.str "==", .str "<"]) = decide (5 ≤ s) from sg_in hs]
    walk_at "zz"
    refine ite_b (fun h5 => ?_) (fun h5 => ?_)
    · have h5' := of_decide_eq_true h5
      walk_at "zz"
      refine ⟨szl (by simp), fun t ht => ?_⟩
      exact q (.two 1 s one b) t _ ⟨⟨by omega, by omega⟩, hs, ⟨ho, hb⟩, by rw [hwo, hwb], by rw [if_pos h5']⟩ (e3.trans (Ex.new ht)) upd_same
    · have h5' := of_decide_eq_false h5
      walk_at "zz"
      refine ⟨szl (by simp), fun t ht => ?_⟩
      exact q (.two wo s one b) t _ ⟨⟨by omega, by omega⟩, hs, ⟨ho, hb⟩, by rw [hwo, hwb], by rw [if_neg h5', hwo]⟩ (e3.trans (Ex.new ht)) upd_same
  walk_at "zz"
  refine ite_b (fun h4 => ?_) (fun h4 => ?_)
  · walk_at "zz"
    refine ite_b (fun _ => ?_) (fun _ => ?_)
    · walk_at "zz"
      refine ofw 1 _ _ _ (Ex.refl _) (by omega) hg.one fun b H2 hb hwb e2 => ?_
      walk_at "zz"
      refine ⟨szl (by simp), fun t ht => ?_⟩
      exact q (.nt 1 b) t _ ⟨⟨by omega, by omega⟩, hb, hwb⟩ (e2.trans (Ex.new ht)) upd_same
    · walk_at "zz"
      refine ite_b (fun _ => ?_) (fun h => absurd h (by rw [h4]; decide))
      walk_at "zz"
      refine ⟨szl (by simp), fun t ht => ?_⟩
      exact q (.nt wo one) t _ ⟨⟨by omega, by omega⟩, ho, hwo⟩ (Ex.new ht) upd_same
  walk_at "zz"
  refine ite_b (fun h => absurd h (by rw [h4]; decide)) (fun _ => ?_)
  walk_at "zz"
  refine ite_b (fun _ => ?_) (fun _ => ?_)
  · walk_at "zz"
    refine z_CE (sq_of hp) (by omega) (fun i => decide (vi (wAt rs i) = vi 1) && decide (V.str (((rs.map Rw.kind)[i]?).getD "") = .str "not")) (fun i => vi i) (fun _ _ => rfl) (fun i x H1 hi ex e => fun H2 e2 Q' q' => ?_) (fun i x H1 hi ex e hf => fun H2 e2 Q' q' => ?_) (fun D H1 hD e1 h1 => ?_)
    · obtain ⟨t, et, ht⟩ := rows_at hx (i := i) (by omega)
      rw [ex] at et
      cases et
      have hk : ((rs.map Rw.kind)[i]?).getD "" = (rs[i]'(by omega)).kind := by rw [List.getElem?_map, List.getElem?_eq_getElem (by omega)] <;> rfl
      rw [hk, wAt_get (by omega)] at q'
      refine z_and (z_test ?_)
      walk_at "zz"
      refine z_ixT (st_of ((e.trans e2) _ _ ht)) (show atI _ ((1 : Nat) : Int) = _ from atI_nat (vs1 _)) ?_
      walk_at "zz"
      refine ite_b (fun hb => ?_) (fun hb => ?_)
      · walk_at "zz"
        refine z_ixT (st_of ((e.trans e2) _ _ ht)) (show atI _ ((0 : Nat) : Int) = _ from atI_nat (vs0 _)) ?_
        walk_at "zz"
        have q2 := q' H2 (Ex.refl _)
        rw [show decide (vi (rs[i]'(by omega)).w = vi 1) = true from hb, Bool.true_and] at q2
        exact q2
      · have q2 := q' H2 (Ex.refl _)
        rw [show decide (vi (rs[i]'(by omega)).w = vi 1) = false from hb, Bool.false_and] at q2
        exact q2
    · walk_at "zz"
      exact q' _ (Ex.refl _)
    have mem : ∀ x ∈ Evl.given xs.length (fun i => decide (vi (wAt rs i) = vi 1) && decide (V.str (((rs.map Rw.kind)[i]?).getD "") = .str "not")) (fun i => vi i), ∃ i, i < rs.length ∧ wAt rs i = 1 ∧ x = vi i := fun x hm => by
      obtain ⟨i, a, b, c⟩ := given_mem hm
      have b1 := of_decide_eq_true (Bool.and_eq_true_iff.mp b).1
      exact ⟨i, by omega, by injection b1 with b1; omega, c⟩
    generalize Evl.given xs.length (fun i => decide (vi (wAt rs i) = vi 1) && decide (V.str (((rs.map Rw.kind)[i]?).getD "") = .str "not")) (fun i => vi i) = L at h1 mem
    walk_at "zz"
    refine z_cut (fun σ' H2 => ∃ (D2 : Addr) (L2 : List V), Ex H' H2 ∧ H2 D2 = some (.lst L2) ∧ L2 ≠ [] ∧ (∀ x ∈ L2, ∃ i, i < rs.length ∧ wAt rs i = 1 ∧ x = vi i) ∧ σ' = [some (.ref wd), some (.int n), some (.ref (A 0)), some (.int (n % 12)), some (.int m), some (vi one), some (vi wo), none, none, some (.ref D2), none, none]) ?_ (fun σ' H2 hm2 => ?_)
    · obtain ⟨ls, rfl⟩ := all_ints L fun x hm => (mem x hm).elim fun i h => ⟨_, h.2.2⟩
      walk_at "zz"
      refine ⟨szl (by simp), fun p1 hp1 => ?_⟩
      have e2 := Ex.new (o := .lst []) hp1
      refine z_eqL (m := []) (sq_of (e2 _ _ h1)) (sq_of upd_same) (b := decide (ls = [])) ⟨fun z => of_decide_eq_true z, fun z => decide_eq_true z⟩ ?_
      have new : ∀ (Q2 : L2.St → Hp → Prop), (∀ D2 H2 v, Ex H' H2 → H2 D2 = some (.lst [v]) → (∃ i, i < rs.length ∧ wAt rs i = 1 ∧ v = vi i) → Q2 [some (.ref wd), some (.int n), some (.ref (A 0)), some (.int (n % 12)), some (.int m), some (vi one), some (vi wo), none, none, some (.ref D2), none, none] H2) → sp_L_of_width K [.ref (A 0), vi 1, .int m] (upd H1 p1 (.lst [])) (fun v H2 => [v].length ≤ sizeLine ∧ ∀ p, H2 p = none → Q2 [some (.ref wd), some (.int n), some (.ref (A 0)), some (.int (n % 12)), some (.int m), some (vi one), some (vi wo), none, none, some (.ref p), none, none] (upd H2 p (.lst [v]))) E0 := fun Q2 hq =>
        ofw 1 m _ _ (e1.trans e2) (by omega) hg.one fun b H2 hb hwb e3 => ⟨szl (by simp), fun p2 hp2 => hq p2 _ (vi b) (((e1.trans e2).trans e3).trans (Ex.new hp2)) upd_same ⟨b, hb, hwb, rfl⟩⟩
      have keep : ∀ v : V, (∃ i, i < rs.length ∧ wAt rs i = 1 ∧ v = vi i) → ∀ x ∈ [v], ∃ i, i < rs.length ∧ wAt rs i = 1 ∧ x = vi i := fun v hv x hx => by
        rw [List.mem_singleton.mp hx]
        exact hv
      walk_at "zz"
      refine ite_b (fun _ => ?_) (fun hne => ?_)
      · refine ite_t ?_
        walk_at "zz"
        exact new _ fun D2 H2 v e3 h2 hv => ⟨D2, _, e3, h2, List.cons_ne_nil _ _, keep v hv, rfl⟩
      · walk_at "zz"
        refine ite_b (fun _ => ?_) (fun _ => ?_)
        · walk_at "zz"
          exact new _ fun D2 H2 v e3 h2 hv => ⟨D2, _, e3, h2, List.cons_ne_nil _ _, keep v hv, rfl⟩
        · walk_at "zz"
          refine ⟨D, _, e1.trans e2, e2 _ _ h1, fun z => of_decide_eq_false hne ?_, mem, rfl⟩
          cases ls with
          | nil => rfl
          | cons _ _ => cases z
    obtain ⟨D2, L2, e2, h2, ne2, mem2, rfl⟩ := hm2
    walk_at "zz"
    refine ofw _ _ _ _ e2 (by omega) ⟨one, ho, hwo⟩ fun b H3 hb hwb e3 => ?_
    walk_at "zz"
    refine z_lenL (sq_of (e3 _ _ h2)) ?_
    have l0 : (0 : Int) < (L2.length : Int) := by
      have := List.length_pos_iff.mpr ne2
      omega
    walk_at "zz"
    obtain ⟨v, hv, hm⟩ := at_some (l := L2) (i := m / 3 % (L2.length : Int)) (Int.emod_nonneg _ (by omega)) (Int.emod_lt_of_pos _ l0)
    obtain ⟨c, hc, hwc, rfl⟩ := mem2 v hm
    refine z_ixL (sq_of (e3 _ _ h2)) hv ?_
    walk_at "zz"
    refine ⟨szl (by simp), fun t ht => ?_⟩
    exact q (.pick wo c one b) t _ ⟨⟨by omega, by omega⟩, ⟨hc, ho, hb⟩, hwc, hwo, hwb⟩ ((e2.trans e3).trans (Ex.new ht)) upd_same
  walk_at "zz"
  obtain ⟨xt, hpt, hxt⟩ := hW.l 3 (by decide)
  obtain ⟨xm, hpm, hxm⟩ := hW.l 4 (by decide)
  have hxt : ItsAt H' xt (W.tabs.map fun p => [vi p.1, .ref p.2.1]) := hxt
  have hxm : ItsAt H' xm (W.mems.map fun p => [.str p.1, vi p.2.1, vi p.2.2]) := hxm
  have lt' : xt.length = W.tabs.length := by rw [hxt.1, List.length_map]
  have lm' : xm.length = W.mems.length := by rw [hxm.1, List.length_map]
  obtain ⟨dt, dt1, dt2, dt3⟩ := tabs_dp (K := K) hW.t hxt
  obtain ⟨dm, dm1, dm2, dm3⟩ := mems_dp (K := K) (fun p hp => (hw.mems.2 p hp).1) hxm
  have tail : ∀ H1, Ex H' H1 → tSeq (tIfS (tTest (tOp rEq (tVar 3) (tC (.int 8)))) (tRet (tTup (tCons (tC (.str "number")) (tCons (tVar 6) (tCons (tCall sp_L_word [] E0 (tCons (tVar 4) (tCons (tVar 6) tNil))) tNil))))) tNext) (tRet (tCall (sp_L_parted K) [] E0 (tCons (tVar 2) (tCons (tVar 5) (tCons (tOp rModI (tVar 3) (tC (.int 3))) (tCons (tVar 4) tNil)))))) { nx := fun _ H' => Q .non H', rt := Q } [some (.ref wd), some (.int n), some (.ref (A 0)), some (.int (n % 12)), some (.int m), some (vi one), some (vi wo), none, none, none, none, none] H1 := fun H1 e1 => by
    walk_at "zz"
    refine ite_b (fun _ => ?_) (fun _ => ?_)
    · walk_at "zz"
      refine ⟨m, wo, rfl, by omega, ⟨w1, w64⟩, fun H2 e2 => ?_⟩
      obtain ⟨x, hx2, hx3⟩ := wordN_b m wo w1
      walk_at "zz"
      rw [hx2]
      refine ⟨szl (by simp), fun t ht => ?_⟩
      exact q (.num wo x) t _ ⟨⟨w1, w64⟩, hx3⟩ ((e1.trans e2).trans (Ex.new ht)) upd_same
    · walk_at "zz"
      refine ⟨A 0, xs, W, rs, one, n % 12 % 3, m, rfl, e1 _ _ hp, its_mono e1 hx, hg, ho, by omega, hl, fun r t H2 hr e2 ht => ?_⟩
      exact q r t H2 hr (e1.trans e2) ht
  have t7 : ∀ H1, Ex H' H1 → tSeq (tIfS (tAnd (tTest (tOp rEq (tVar 3) (tC (.int 7)))) (tTest (tOp (rNeD K) (tDGet (tVar 0) (tC (.str "memories"))) (tLst tNil)))) (tSeq (tAsg (tOp rModI (tVar 4) (tCB (cLenSeq K) (tCons (tDGet (tVar 0) (tC (.str "memories"))) tNil))) (gName 10)) (tRet (tTup (tCons (tC (.str "memory")) (tCons (tOp (rIxT K) (tOp (rIxL K) (tDGet (tVar 0) (tC (.str "memories"))) (tVar 10)) (tC (.int 1))) (tCons (tVar 10) (tCons (tVar 5) tNil))))))) tNext) (tSeq (tIfS (tTest (tOp rEq (tVar 3) (tC (.int 8)))) (tRet (tTup (tCons (tC (.str "number")) (tCons (tVar 6) (tCons (tCall sp_L_word [] E0 (tCons (tVar 4) (tCons (tVar 6) tNil))) tNil))))) tNext) (tRet (tCall (sp_L_parted K) [] E0 (tCons (tVar 2) (tCons (tVar 5) (tCons (tOp rModI (tVar 3) (tC (.int 3))) (tCons (tVar 4) tNil))))))) { nx := fun _ H' => Q .non H', rt := Q } [some (.ref wd), some (.int n), some (.ref (A 0)), some (.int (n % 12)), some (.int m), some (vi one), some (vi wo), none, none, none, none, none] H1 := fun H1 e1 => by
    walk_at "zz"
    refine ite_b (fun _ => ?_) (fun _ => ?_)
    · walk_at "zz"
      refine ⟨_, .ref (A 4), rfl, dgK (e1 _ _ hW.d) rfl, ?_⟩
      walk_at "zz"
      refine ⟨szl (by simp), fun p1 hp1 => ?_⟩
      have e2 := e1.trans (Ex.new (o := .lst []) hp1)
      refine z_neNil (sq_of (e2 _ _ hpm)) (dpAll_mono e2 dm1) (sq_of upd_same) dm2 (by omega) ?_
      walk_at "zz"
      refine ite_b (fun hne => ?_) (fun _ => ?_)
      · have l0 : 0 < xm.length := by
          cases xm with
          | nil => cases hne
          | cons _ _ => simp
        walk_at "zz"
        refine ⟨_, .ref (A 4), rfl, dgK (e2 _ _ hW.d) rfl, ?_⟩
        walk_at "zz"
        refine z_lenL (sq_of (e2 _ _ hpm)) ?_
        obtain ⟨k, hk⟩ := nat_of (Int.emod_nonneg m (show (xm.length : Int) ≠ 0 by omega))
        have hk2 : k < xm.length := by
          have := Int.emod_lt_of_pos m (show (0 : Int) < (xm.length : Int) by omega)
          omega
        walk_at "zz"
        rw [hk]
        refine ⟨_, .ref (A 4), rfl, dgK (e2 _ _ hW.d) rfl, ?_⟩
        walk_at "zz"
        obtain ⟨tt, et, ht⟩ := its_at hxm (i := k) (by rw [List.length_map]; omega)
        refine z_ixL (sq_of (e2 _ _ hpm)) (atI_nat et) ?_
        walk_at "zz"
        rw [List.getElem_map] at ht
        have hkm : k < W.mems.length := by omega
        refine z_ixT (st_of (e2 _ _ ht)) (show atI _ ((1 : Nat) : Int) = some (vi (W.mems[k]'hkm).2.1) from atI_nat rfl) ?_
        walk_at "zz"
        refine ⟨szl (by simp), fun t htt => ?_⟩
        have hmem := hw.mems.2 _ (List.getElem_mem hkm)
        have hwm := hw.wide.2 _ hmem.2.1
        exact q (.mem (W.mems[k]'hkm).2.1 k one) t _ ⟨hwm, ho, by rw [List.getElem?_map, List.getElem?_eq_getElem hkm] <;> rfl⟩ (e2.trans (Ex.new htt)) upd_same
      · exact tail _ e2
    · exact tail _ e1
  refine ite_b (fun _ => ?_) (fun _ => ?_)
  · walk_at "zz"
    refine ⟨_, .ref (A 3), rfl, dgK hW.d rfl, ?_⟩
    walk_at "zz"
    refine ⟨szl (by simp), fun p1 hp1 => ?_⟩
    have e2 := Ex.new (o := .lst []) hp1
    refine z_neNil (sq_of (e2 _ _ hpt)) (dpAll_mono e2 dt1) (sq_of upd_same) dt2 (by omega) ?_
    walk_at "zz"
    refine ite_b (fun hne => ?_) (fun _ => ?_)
    · have l0 : 0 < xt.length := by
        cases xt with
        | nil => cases hne
        | cons _ _ => simp
      walk_at "zz"
      refine ⟨_, .ref (A 3), rfl, dgK (e2 _ _ hW.d) rfl, ?_⟩
      walk_at "zz"
      refine z_lenL (sq_of (e2 _ _ hpt)) ?_
      obtain ⟨k, hk⟩ := nat_of (Int.emod_nonneg m (show (xt.length : Int) ≠ 0 by omega))
      have hk2 : k < xt.length := by
        have := Int.emod_lt_of_pos m (show (0 : Int) < (xt.length : Int) by omega)
        omega
      walk_at "zz"
      rw [hk]
      refine ⟨_, .ref (A 3), rfl, dgK (e2 _ _ hW.d) rfl, ?_⟩
      walk_at "zz"
      obtain ⟨tt, et, ht⟩ := its_at hxt (i := k) (by rw [List.length_map]; omega)
      refine z_ixL (sq_of (e2 _ _ hpt)) (atI_nat et) ?_
      walk_at "zz"
      rw [List.getElem_map] at ht
      have hkm : k < W.tabs.length := by omega
      refine z_ixT (st_of (e2 _ _ ht)) (show atI _ ((0 : Nat) : Int) = some (vi (W.tabs[k]'hkm).1) from atI_nat rfl) ?_
      walk_at "zz"
      refine ⟨szl (by simp), fun t htt => ?_⟩
      have hmem := hw.tabs.2 _ (List.getElem_mem hkm)
      have hwm := hw.wide.2 _ hmem.1
      exact q (.tab (W.tabs[k]'hkm).1 k one) t _ ⟨hwm, ho, by rw [List.getElem?_map, List.getElem?_eq_getElem hkm] <;> rfl⟩ (e2.trans (Ex.new htt)) upd_same
    · exact t7 _ e2
  · exact t7 _ (Ex.refl _)
theorem take_app {α : Type} {l : List α} {x : α} {i : Nat} (h : i ≤ l.length) : (l ++ [x]).take i = l.take i := by
  rw [List.take_append_of_le_length h]
theorem wAt_app {rs : List Rw} {r : Rw} {i : Nat} (h : i < rs.length) : wAt (rs ++ [r]) i = wAt rs i := by
  unfold wAt
  rw [List.map_append, List.getElem?_append_left (by rw [List.length_map]; exact h)]
theorem wAt_last (rs : List Rw) (r : Rw) : wAt (rs ++ [r]) rs.length = r.w := by
  unfold wAt
  rw [List.map_append, List.getElem?_append_right (by rw [List.length_map]; exact Nat.le_refl _), List.length_map, Nat.sub_self]
  rfl
def OkL (W : Wo) (rs : List Rw) : Prop := ∀ (i : Nat) r, rs[i]? = some r → r.ok W (rs.take i)
theorem OkL.snoc {W : Wo} {rs : List Rw} {r : Rw} (h : OkL W rs) (hr : r.ok W rs) : OkL W (rs ++ [r]) := fun i x hx => by
  by_cases hi : i < rs.length
  · rw [List.getElem?_append_left hi] at hx
    rw [take_app (Nat.le_of_lt hi)]
    exact h i x hx
  · have hi2 : i < (rs ++ [r]).length := (List.getElem?_eq_some_iff.mp hx).1
    rw [List.length_append, List.length_singleton] at hi2
    have e : i = rs.length := by omega
    subst e
    rw [List.getElem?_append_right (Nat.le_refl _), Nat.sub_self] at hx
    cases hx
    rw [take_app (Nat.le_refl _), List.take_length]
    exact hr
theorem hasW_app {rs : List Rw} {r : Rw} {w : Nat} (h : ∃ i, i < rs.length ∧ wAt rs i = w) : ∃ i, i < (rs ++ [r]).length ∧ wAt (rs ++ [r]) i = w := by
  obtain ⟨i, a, b⟩ := h
  exact ⟨i, by rw [List.length_append]; omega, by rw [wAt_app a]; exact b⟩
theorem Good.snoc {W : Wo} {rs : List Rw} {r : Rw} (h : Good W rs) (hr : r.ok W rs) : Good W (rs ++ [r]) := ⟨OkL.snoc h.ok hr, hasW_app h.one, fun w hw => hasW_app (h.wide w hw)⟩
section
variable {H H' : Hp} {wd pw t : Addr} {A : Nat → Addr} {W W' : Wo} {rs rs' : List Rw} {B : List Addr} {j : Nat} {xs : List V} {y : List V}
theorem its_app (h : ItsAt H xs ys) (ht : H t = some (.tup y)) : ItsAt H (xs ++ [.ref t]) (ys ++ [y]) := by
  refine ⟨by rw [List.length_append, List.length_append, h.1] <;> rfl, fun j x z hx hz => ?_⟩
  by_cases hj : j < xs.length
  · rw [List.getElem?_append_left hj] at hx
    rw [List.getElem?_append_left (by rw [← h.1]; exact hj)] at hz
    exact h.2 j x z hx hz
  · rw [List.getElem?_append_right (by omega)] at hx
    rw [List.getElem?_append_right (by rw [← h.1]; omega), ← h.1] at hz
    have : j - xs.length = 0 := by
      have := (List.getElem?_eq_some_iff.mp hx).1
      simp at this
      omega
    rw [this] at hx hz
    cases hx
    cases hz
    exact ⟨t, rfl, ht⟩
theorem its_keep {ys : List (List V)} (k : ∀ t y, H t = some (.tup y) → H' t = some (.tup y)) (h : ItsAt H xs ys) : ItsAt H' xs ys := ⟨h.1, fun j x y hx hy => by
  obtain ⟨t, z, g⟩ := h.2 j x y hx hy
  exact ⟨t, z, k _ _ g⟩⟩
theorem adr_A (hj : j < 5) : A j ∈ adr wd pw A := by
  match j, hj with
  | 0, _ => simp [adr]
  | 1, _ => simp [adr]
  | 2, _ => simp [adr]
  | 3, _ => simp [adr]
  | 4, _ => simp [adr]
theorem WA.but (h : WA H wd pw A W rs) (u : But B H H') (nb : ∀ b ∈ adr wd pw A, b ∉ B) (nt : ∀ b ∈ B, ∀ ys, H b ≠ some (.tup ys)) : WA H' wd pw A W rs := by
  have tk : ∀ t y, H t = some (.tup y) → H' t = some (.tup y) := fun t y g => u t _ (fun z => nt t z y g) g
  refine ⟨u _ _ (nb _ (by simp [adr])) h.d, u _ _ (nb _ (by simp [adr])) h.w, fun j hj => ?_, fun p hp => tk _ _ (h.t p hp), h.inj, h.pa⟩
  obtain ⟨xs, g, hx⟩ := h.l j hj
  exact ⟨xs, u _ _ (nb _ (adr_A hj)) g, its_keep tk hx⟩
theorem WA.ex (h : WA H wd pw A W rs) (e : Ex H H') : WA H' wd pw A W rs := h.but (B := []) (But.ex e) (fun _ _ z => by cases z) fun _ z => by cases z
theorem WA.add (h : WA H wd pw A W rs) (hj : j < 5) (hp : H (A j) = some (.lst xs)) (hx : ItsAt H xs (W.its rs j)) (ht : H t = some (.tup y)) (e1 : W'.its rs' j = W.its rs j ++ [y]) (e2 : ∀ i, i < 5 → i ≠ j → W'.its rs' i = W.its rs i) (ew : W'.wide = W.wide)
    (et : ∀ p ∈ W'.tabs, H p.2.1 = some (.tup (p.2.2.map vi))) : WA (upd H (A j) (.lst (xs ++ [.ref t]))) wd pw A W' rs' := by
  have ne : ∀ {b : Addr} {o : HO}, H b = some o → (∀ l, o ≠ .lst l) → upd H (A j) (.lst (xs ++ [.ref t])) b = some o := fun {b o} hb hn => by
    rw [upd_ne fun z => by
      rw [z, hp] at hb
      cases hb
      exact hn _ rfl]
    exact hb
  have tk : ∀ b y, H b = some (.tup y) → upd H (A j) (.lst (xs ++ [.ref t])) b = some (.tup y) := fun b y g => ne g fun _ z => by cases z
  refine ⟨ne h.d fun _ z => by (cases z), ?_, fun i hi => ?_, fun p hp => tk _ _ (et p hp), h.inj, h.pa⟩
  · rw [upd_ne fun z => h.pa j hj z.symm, ew]
    exact h.w
  · by_cases hij : i = j
    · subst hij
      refine ⟨_, upd_same, ?_⟩
      rw [e1]
      exact its_keep tk (its_app hx ht)
    · obtain ⟨zs, g, hz⟩ := h.l i hi
      refine ⟨zs, ?_, ?_⟩
      · rw [upd_ne fun z => hij (h.inj i j hi hj z)]
        exact g
      · rw [e2 i hi hij]
        exact its_keep tk hz
end
theorem Dr.but {K : PySem.W.Frag} {H H' : Hp} {d a : Addr} {ns : List Int} {k : Nat} {B : List Addr} (h : Dr K H d a ns k) (u : But B H H') (hd : d ∉ B) (ha : Ap K a ns B) : Dr K H' d a ns k := by
  refine ⟨u _ _ hd h.1, ?_⟩
  rcases ha with ha | ha
  · rcases h.2 with (g | ⟨o, g⟩) | g
    · exact .inl (.inl (u _ _ ha g))
    · exact .inl (.inr ⟨o, u _ _ ha g⟩)
    · exact .inr g
  · exact ha H'
theorem Ap.mono {K : PySem.W.Frag} {a : Addr} {ns : List Int} {B C : List Addr} (h : Ap K a ns B) (s : ∀ b ∈ C, b ∈ B) : Ap K a ns C := h.imp (fun z y => z (s a y)) id
theorem Dr.ex {K : PySem.W.Frag} {H H' : Hp} {d a : Addr} {ns : List Int} {k : Nat} (h : Dr K H d a ns k) (e : Ex H H') : Dr K H' d a ns k := ⟨e _ _ h.1, ex_l e h.2⟩
theorem vr_L_leaves (vs H Q E) (h : sp_L_leaves K vs H Q E) : (rd_L_leaves K) { nx := fun _ H' => Q .non H', rt := Q } (start ["_law_draw", "_law_world", "_law_width", "_law_k", "_law_door", "_law_rest"] vs) H := by
  obtain ⟨d, a, wd, pw, ns, k, A, W, rfl, hD, hk, hW, hw, hdA, hap, q⟩ := h
  unfold rd_L_leaves
  walk_at "zz"
  refine ⟨szl (by simp), fun p1 hp1 => ?_⟩
  walk_at "zz"
  have e1 := Ex.new (o := .lst [.int 1]) hp1
  refine ⟨_, .ref pw, rfl, dgK (e1 _ _ hW.d) rfl, ?_⟩
  refine z_cat upd_same (e1 _ _ hW.w) (by rw [List.length_map, hw.wide.1]; exact szl (by decide)) fun p2 hp2 => ?_
  have e2 := e1.trans (Ex.new (o := .lst ([.int 1] ++ W.wide.map vi)) hp2)
  have hW2 := hW.ex e2
  have hD2 := hD.ex e2
  have p2d : p2 ≠ d := fun z => by
    rw [z, e1 _ _ hD.1] at hp2
    cases hp2
  have nA : ∀ b ∈ adr wd pw A, b ∉ [d] := fun b hb z => hdA (by rw [← List.mem_singleton.mp z]; exact hb)
  have p2A : p2 ∉ [d, A 0] := fun z => by
    rcases List.mem_cons.mp z with z | z
    · exact p2d z
    · obtain ⟨xs, g, _⟩ := hW.l 0 (by decide)
      rw [List.mem_singleton.mp z, e1 _ _ g] at hp2
      cases hp2
  have bk : ∀ {B : List Addr} {H1 H2 : Hp}, But B H1 H2 → But (d :: B) H1 H2 := fun u => u.mono fun b hb => List.mem_cons_of_mem _ hb
  have dA0 : d ∉ [A 0] := fun z => hdA (by rw [List.mem_singleton.mp z]; simp [adr])
  have ap0 : Ap K a ns [A 0] := hap.mono fun b hb => by
    rw [List.mem_singleton.mp hb]
    simp [adr]
  -- one row more
  have row : ∀ (H1 : Hp) (rs : List Rw) (r : Rw) (t : Addr) (Q2 : VK), WA H1 wd pw A W rs → H1 t = some (.tup r.vs) → rs.length ≤ 500 → (∀ H2, WA H2 wd pw A W (rs ++ [r]) → But [A 0] H1 H2 → Q2 .non H2) → rAppend (.ref (A 0)) [.ref t] H1 Q2 := fun H1 rs r t Q2 h1 ht hl hq => by
    obtain ⟨xs, g, hx⟩ := h1.l 0 (by decide)
    have lx : xs.length = rs.length := by rw [hx.1] <;> exact List.length_map ..
    refine z_rapp g (by rw [lx]; exact szlt (by omega)) (hq _ (h1.add (by decide) g hx ht ?_ ?_ rfl h1.t) (But.put (by simp)))
    · show (rs ++ [r]).map Rw.vs = _
      rw [List.map_append] <;> rfl
    · intro i hi hne
      match i, hne with
      | 1, _ => rfl
      | 2, _ => rfl
      | 3, _ => rfl
      | i + 4, _ => rfl
  have wd1 : ∀ i, i < 4 → ∃ w : Nat, ([.int 1] ++ W.wide.map vi : List V)[i]? = some (vi w) ∧ (1 :: W.wide)[i]? = some w ∧ 1 ≤ w ∧ w ≤ 64 := fun i hi => by
    obtain ⟨w, hw'⟩ : ∃ w, (1 :: W.wide)[i]? = some w := ⟨_, List.getElem?_eq_getElem (by rw [List.length_cons, hw.wide.1]; omega)⟩
    refine ⟨w, ?_, hw', ?_⟩
    · show ((1 :: W.wide).map vi)[i]? = _
      rw [List.getElem?_map, hw'] <;> rfl
    · rcases List.mem_cons.mp (List.mem_of_getElem? hw') with z | z
      · omega
      · exact hw.wide.2 w z
  have len4 : ([.int 1] ++ W.wide.map vi : List V).length = 4 := by
    rw [List.length_append, List.length_map, hw.wide.1] <;> rfl
  refine z_FL (sq_of upd_same) (fun i σ' H' => ∃ (y2 y3 y4 y5 : Option V) (rs : List Rw), σ' = [some (.ref d), some (.ref wd), y2, y3, y4, y5] ∧ Dr K H' d a ns (k + i) ∧ But [d, A 0] (upd (upd H p1 (.lst [.int 1])) p2 (.lst ([.int 1] ++ W.wide.map vi))) H' ∧ WA H' wd pw A W rs ∧ OkL W rs ∧ rs.length = i ∧ ∀ j, j < i → (1 :: W.wide)[j]? = some (wAt rs j)) ?_ ?_ ?_ ?_
  · exact ⟨none, none, none, none, [], rfl, hD2, But.refl, hW2, fun i r h => by simp at h, rfl, fun j hj => absurd hj (by omega)⟩
  · rintro i σ' H' _ ⟨y2, y3, y4, y5, rs, rfl, _, u, _⟩
    exact sq_of (u _ _ p2A upd_same)
  · rintro i x σ' H' hi ex ⟨y2, y3, y4, y5, rs, rfl, hD', u, hW', hok, hlen, hws⟩
    rw [len4] at hi
    obtain ⟨w, ew, ew2, w1, w64⟩ := wd1 i hi
    rw [ew] at ex
    cases ex
    walk_at "zz"
    refine ⟨_, .ref (A 0), rfl, dgK hW'.d rfl, ?_⟩
    obtain ⟨xr, gr, _⟩ := hW'.l 0 (by decide)
    refine z_tyl (sq_of gr) ?_
    walk_at "zz"
    refine ⟨d, a, ns, k + i, rfl, hD', by omega, fun c H3 c0 c1 hD3 u3 => ?_⟩
    walk_at "zz"
    refine ⟨c, w, rfl, c0, ⟨w1, w64⟩, fun H4 e4 => ?_⟩
    obtain ⟨x, hx, hx2⟩ := wordN_b c w w1
    rw [hx]
    walk_at "zz"
    refine ⟨szl (by simp), fun t ht => ?_⟩
    walk_at "zz"
    have e5 := e4.trans (Ex.new (o := .tup [.str "number", vi w, .int (x : Int)]) ht)
    have hW5 := ((hW'.but u3 nA fun b hb ys z => by rw [List.mem_singleton.mp hb, hD'.1] at z; cases z).ex e5)
    refine row _ rs (.num w x) t _ hW5 upd_same (by omega) fun H6 hW6 u6 => ?_
    have u56 : But [d, A 0] H' H6 := ((u3.mono (by simp)).trans (But.ex e5)).trans (u6.mono (by simp))
    refine ⟨_, y3, y4, y5, rs ++ [.num w x], rfl, ?_, u.trans u56, hW6, OkL.snoc (r := .num w x) hok ⟨⟨w1, w64⟩, hx2⟩, by rw [List.length_append, hlen] <;> rfl, fun j hj => ?_⟩
    · exact (hD3.ex e5).but u6 dA0 ap0
    · by_cases hji : j < i
      · rw [wAt_app (by omega)]
        exact hws j hji
      · have : j = rs.length := by omega
        subst this
        rw [wAt_last, hlen]
        exact ew2
  rintro σ' H' ⟨y2, y3, y4, y5, rs, rfl, hD', u, hW', hok, hlen, hws⟩
  rw [len4] at hD' hlen hws
  have hg : Good W rs := ⟨hok, ⟨0, by omega, by have := hws 0 (by decide); injection this with this; exact this.symm⟩, fun w hm => by
    obtain ⟨j, hj, e⟩ := List.mem_iff_getElem.mp hm
    have h3 := hw.wide.1
    refine ⟨j + 1, by omega, ?_⟩
    have := hws (j + 1) (by omega)
    rw [List.getElem?_cons_succ, List.getElem?_eq_getElem hj, e] at this
    injection this with this
    exact this.symm⟩
  walk_at "zz"
  obtain ⟨xi, gi, hxi⟩ := hW'.l 1 (by decide)
  have hxi : ItsAt H' xi (W.ins.map fun p => [.str p.1, vi p.2]) := hxi
  have li : xi.length = W.ins.length := by rw [hxi.1, List.length_map]
  obtain ⟨xs2, gs, hxs⟩ := hW'.l 2 (by decide)
  have hxs : ItsAt H' xs2 (W.rests.map fun p => [.str p.1, vi p.2.1, vi p.2.2]) := hxs
  have ls : xs2.length = W.rests.length := by rw [hxs.1, List.length_map]
  have nj : ∀ j, j < 5 → j ≠ 0 → A j ∉ [A 0] := fun j hj h0 z => h0 (hW.inj j 0 hj (by decide) (List.mem_singleton.mp z))
  have nt0 : ∀ {H1 : Hp} {rs : List Rw}, WA H1 wd pw A W rs → ∀ b ∈ [A 0], ∀ ys, H1 b ≠ some (.tup ys) := fun h1 b hb ys z => by
    obtain ⟨xs, g, _⟩ := h1.l 0 (by decide)
    rw [List.mem_singleton.mp hb, g] at z
    cases z
  refine ⟨_, .ref (A 1), rfl, dgK hW'.d rfl, ?_⟩
  walk_at "zz"
  have lin := hw.ins.1
  have lre := hw.rests.1
  have but0 : But [d, A 0] H H' := (But.ex e2).trans u
  refine z_FE (sq_of gi) (fun i σ' H2 => ∃ (y2 y3 y4 y5 : Option V) (rs : List Rw), σ' = [some (.ref d), some (.ref wd), y2, y3, y4, y5] ∧ Dr K H2 d a ns (k + 4) ∧ But [A 0] H' H2 ∧ WA H2 wd pw A W rs ∧ Good W rs ∧ rs.length = 4 + i) ?_ ?_ ?_ ?_
  · exact ⟨y2, y3, y4, y5, rs, rfl, hD', But.refl, hW', hg, hlen⟩
  · rintro i σ' H2 _ ⟨_, _, _, _, _, rfl, _, u2, _⟩
    exact sq_of (u2 _ _ (nj 1 (by decide) (by decide)) gi)
  · rintro i x p σ' H2 H3 hi ex ⟨y2, y3, y4, y5, rs, rfl, hD2', u2, hW2', hg2, hl2⟩ e3 hp3 rfl
    obtain ⟨tt, et, ht⟩ := its_at hxi (i := i) (by rw [List.length_map]; omega)
    rw [ex] at et
    cases et
    rw [List.getElem_map] at ht
    have hii : i < W.ins.length := by omega
    have ht2 : H2 tt = some (.tup [.str (W.ins[i]'hii).1, vi (W.ins[i]'hii).2]) := u2 _ _ (fun z => nt0 hW' _ z _ ht) ht
    refine z_gtup2 (st_of upd_same) ?_
    walk_at "zz"
    refine ⟨_, .ref (A 0), rfl, dgK (e3 _ _ hW2'.d) rfl, ?_⟩
    obtain ⟨xr, gr, _⟩ := (hW2'.ex e3).l 0 (by decide)
    refine z_tyl (sq_of gr) ?_
    walk_at "zz"
    refine z_ixT (st_of (e3 _ _ ht2)) (show atI _ ((1 : Nat) : Int) = some (vi (W.ins[i]'hii).2) from atI_nat rfl) ?_
    walk_at "zz"
    refine ⟨szl (by simp), fun t htt => ?_⟩
    walk_at "zz"
    have e4 := e3.trans (Ex.new (o := .tup [.str "in", vi (W.ins[i]'hii).2, .int (i : Int)]) htt)
    have hwi := hw.wide.2 _ (hw.ins.2 _ (List.getElem_mem hii)).2
    refine row _ rs (.inn (W.ins[i]'hii).2 i) t _ (hW2'.ex e4) upd_same (by omega) fun H6 hW6 u6 => ?_
    refine ⟨_, _, _, _, rs ++ [.inn (W.ins[i]'hii).2 i], rfl, (hD2'.ex e4).but u6 dA0 ap0, (u2.trans (But.ex e4)).trans u6, hW6, Good.snoc (r := .inn (W.ins[i]'hii).2 i) hg2 ⟨hwi, ?_⟩, by rw [List.length_append, hl2] <;> rfl⟩
    rw [List.getElem?_map, List.getElem?_eq_getElem hii] <;> rfl
  rintro σ' H2 ⟨y2, y3, y4, y5, rs, rfl, hD2', u2, hW2', hg2, hl2⟩
  rw [li] at hl2
  walk_at "zz"
  refine ⟨_, .ref (A 2), rfl, dgK hW2'.d rfl, ?_⟩
  walk_at "zz"
  have gs2 := u2 _ _ (nj 2 (by decide) (by decide)) gs
  refine z_FE (sq_of gs2) (fun i σ' H3 => ∃ (y2 y3 y4 y5 : Option V) (rs : List Rw), σ' = [some (.ref d), some (.ref wd), y2, y3, y4, y5] ∧ Dr K H3 d a ns (k + 4) ∧ But [A 0] H' H3 ∧ WA H3 wd pw A W rs ∧ Good W rs ∧ rs.length = 4 + W.ins.length + i) ?_ ?_ ?_ ?_
  · exact ⟨y2, y3, y4, y5, rs, rfl, hD2', u2, hW2', hg2, hl2⟩
  · rintro i σ' H3 _ ⟨_, _, _, _, _, rfl, _, u3, _⟩
    exact sq_of (u3 _ _ (nj 2 (by decide) (by decide)) gs)
  · rintro i x p σ' H3 H4 hi ex ⟨y2, y3, y4, y5, rs, rfl, hD3', u3, hW3', hg3, hl3⟩ e3 hp3 rfl
    obtain ⟨tt, et, ht⟩ := its_at hxs (i := i) (by rw [List.length_map]; omega)
    rw [ex] at et
    cases et
    rw [List.getElem_map] at ht
    have hii : i < W.rests.length := by omega
    have ht2 : H3 tt = some (.tup [.str (W.rests[i]'hii).1, vi (W.rests[i]'hii).2.1, vi (W.rests[i]'hii).2.2]) := u3 _ _ (fun z => nt0 hW' _ z _ ht) ht
    refine z_gtup2 (st_of upd_same) ?_
    walk_at "zz"
    refine ⟨_, .ref (A 0), rfl, dgK (e3 _ _ hW3'.d) rfl, ?_⟩
    obtain ⟨xr, gr, _⟩ := (hW3'.ex e3).l 0 (by decide)
    refine z_tyl (sq_of gr) ?_
    walk_at "zz"
    refine z_ixT (st_of (e3 _ _ ht2)) (show atI _ ((1 : Nat) : Int) = some (vi (W.rests[i]'hii).2.1) from atI_nat rfl) ?_
    walk_at "zz"
    refine ⟨szl (by simp), fun t htt => ?_⟩
    walk_at "zz"
    have e4 := e3.trans (Ex.new (o := .tup [.str "rest", vi (W.rests[i]'hii).2.1, .int (i : Int)]) htt)
    have hwi := hw.wide.2 _ (hw.rests.2 _ (List.getElem_mem hii)).2.1
    refine row _ rs (.rst (W.rests[i]'hii).2.1 i) t _ (hW3'.ex e4) upd_same (by omega) fun H6 hW6 u6 => ?_
    refine ⟨_, _, _, _, rs ++ [.rst (W.rests[i]'hii).2.1 i], rfl, (hD3'.ex e4).but u6 dA0 ap0, (u3.trans (But.ex e4)).trans u6, hW6, Good.snoc (r := .rst (W.rests[i]'hii).2.1 i) hg3 ⟨hwi, ?_⟩, by rw [List.length_append, hl3] <;> rfl⟩
    rw [List.getElem?_map, List.getElem?_eq_getElem hii] <;> rfl
  rintro σ' H3 ⟨y2, y3, y4, y5, rs, rfl, hD3', u3, hW3', hg3, hl3⟩
  exact q H3 (k + 4) rs hD3' (by omega) (but0.trans (bk u3)) hW3' hg3 (by omega)
theorem Dr.ap {K : PySem.W.Frag} {H : Hp} {d a : Addr} {ns : List Int} {k : Nat} {B : List Addr} (h : Dr K H d a ns k) (f : ∀ b ∈ B, H b = none) : Ap K a ns B := by
  rcases h.2 with (g | ⟨o, g⟩) | g
  · exact .inl fun z => by
      rw [f a z] at g
      cases g
  · exact .inl fun z => by
      rw [f a z] at g
      cases g
  · exact .inr fun _ => .inr g
theorem Dr.ne {K : PySem.W.Frag} {H : Hp} {d a b : Addr} {ns : List Int} {k : Nat} (h : Dr K H d a ns k) (f : H b = none) : b ∉ [d] := fun z => by
  rw [List.mem_singleton.mp z, h.1] at f
  cases f
theorem Dr.nd {K : PySem.W.Frag} {H : Hp} {d a b : Addr} {ns : List Int} {k : Nat} (h : Dr K H d a ns k) (f : H b = none) : d ∉ [b] := fun z => h.ne f (by rw [List.mem_singleton.mp z]; simp)
theorem WA.ne {H : Hp} {wd pw b : Addr} {A : Nat → Addr} {W : Wo} {rs : List Rw} (h : WA H wd pw A W rs) (hb : H b = none) : ∀ c ∈ adr wd pw A, c ∉ [b] := fun c hc z => by
  rw [List.mem_singleton] at z
  subst z
  have hc' : c = wd ∨ c = pw ∨ c = A 0 ∨ c = A 1 ∨ c = A 2 ∨ c = A 3 ∨ c = A 4 := by simpa [adr] using hc
  have no : ∀ j, j < 5 → c ≠ A j := fun j hj z => by
    obtain ⟨xs, g, _⟩ := h.l j hj
    rw [← z, hb] at g
    cases g
  rcases hc' with z | z | z | z | z | z | z
  · rw [z, h.d] at hb
    cases hb
  · rw [z, h.w] at hb
    cases hb
  · exact no 0 (by decide) z
  · exact no 1 (by decide) z
  · exact no 2 (by decide) z
  · exact no 3 (by decide) z
  · exact no 4 (by decide) z
def fiveA (r i s t m : Addr) : Nat → Addr
  | 0 => r
  | 1 => i
  | 2 => s
  | 3 => t
  | _ => m
theorem up_n {H : Hp} {p b : Addr} {o : HO} (h : upd H p o b = none) : H b = none ∧ b ≠ p := by
  by_cases e : b = p
  · rw [e, upd_same] at h
    cases h
  · rw [upd_ne e] at h
    exact ⟨h, e⟩
theorem vr_L_ends (vs H Q E) (h : sp_L_ends K vs H Q E) : (rd_L_ends K) { nx := fun _ H' => Q .non H', rt := Q } (start ["_law_draw", "_law_names_here", "_law_number", "_law_wide", "_law_world", "_law_k", "_law_width", "_law_size", "_law_j"] vs) H := by
  obtain ⟨d, a, l, ns, k, zs, rfl, hD, hk, hl, hz, hzs, q⟩ := h
  have ld : l ≠ d := fun z => by
    rw [z, hD.1] at hl
    cases zs with
    | nil => cases hz
    | cons z r => cases hl
  unfold rd_L_ends
  walk_at "zz"
  refine ⟨d, a, ns, k, rfl, hD, by omega, fun n H1 n0 n1 hD1 u1 => ?_⟩
  walk_at "zz"
  refine z_CR1w (by decide) (fun D i H2 => ∃ ws : List Nat, H2 D = some (.lst (ws.map vi)) ∧ ws.length = i ∧ (∀ w ∈ ws, 1 ≤ w ∧ w ≤ 64) ∧ Dr K H2 d a ns (k + 1 + i) ∧ But [d] H1 H2) (fun D hD0 => ⟨[], upd_same, rfl, (fun w hw => absurd hw (by simp)), hD1.ex (Ex.new hD0), But.ex (Ex.new hD0)⟩) (fun _ => rfl) (fun D i H2 hD0 hi hP => ?_) (fun D H2 hD0 hP => ?_)
  · obtain ⟨ws, h2, hlen, hws, hD2, u2⟩ := hP
    have hi3 : i < 3 := hi
    walk_at "zz"
    refine ⟨d, a, ns, k + 1 + i, rfl, hD2, by omega, fun c H3 c0 c1 hD3 u3 => ?_⟩
    walk_at "zz"
    refine ⟨szl (by simp), fun p hp => ?_⟩
    walk_at "zz"
    obtain ⟨v, hv, hm⟩ := at_some (l := [V.int 4, V.int 64]) (i := (i : Int) % 2) (by omega) (by show _ < ((2 : Nat) : Int); omega)
    obtain ⟨j, rfl, j1, j64⟩ : ∃ j : Int, v = .int j ∧ 1 ≤ j ∧ j ≤ 64 := by
      rcases List.mem_cons.mp hm with rfl | hm
      · exact ⟨4, rfl, by decide, by decide⟩
      · rw [List.mem_singleton.mp hm]
        exact ⟨64, rfl, by decide, by decide⟩
    refine z_ixL (sq_of upd_same) hv ?_
    have c2 := Int.emod_nonneg c (show j ≠ 0 by omega)
    have c3 := Int.emod_lt_of_pos c (show 0 < j by omega)
    walk_at "zz"
    obtain ⟨x, hx⟩ := nat_of (show 0 ≤ 1 + c % j by omega)
    rw [hx]
    have e4 := Ex.new (o := .lst [.int 4, .int 64]) hp
    have hDd : D ∉ [d] := hD1.ne hD0
    refine ⟨ws.map vi, e4 _ _ (u3 _ _ hDd h2), by rw [List.length_map]; exact szlt (by omega), ws ++ [x], ?_, by rw [List.length_append, hlen] <;> rfl, fun w hw => ?_, ?_, ?_⟩
    · rw [upd_same, List.map_append] <;> rfl
    · rcases List.mem_append.mp hw with hw | hw
      · exact hws w hw
      · rw [List.mem_singleton.mp hw]
        omega
    · exact (hD3.ex e4).but (But.put (by simp)) (hD1.nd hD0) (hD1.ap fun b hb => by rw [List.mem_singleton.mp hb]; exact hD0)
    · exact ((u2.trans u3).trans (But.ex e4)).mut hD0
  obtain ⟨wide, h2, hlen, hws, hD2, u2⟩ := hP
  walk_at "zz"
  refine z_disp fun p hp => ?_
  refine z_pairs ?_
  walk_at "zz"
  refine ⟨szl (by simp), fun r0 hr0 => ?_⟩
  refine z_pairs ?_
  walk_at "zz"
  refine z_pairs ?_
  walk_at "zz"
  refine ⟨szl (by simp), fun r1 hr1 => ?_⟩
  refine z_pairs ?_
  walk_at "zz"
  refine ⟨szl (by simp), fun r2 hr2 => ?_⟩
  refine z_pairs ?_
  walk_at "zz"
  refine ⟨szl (by simp), fun r3 hr3 => ?_⟩
  refine z_pairs ?_
  walk_at "zz"
  refine ⟨szl (by simp), fun r4 hr4 => ?_⟩
  refine z_pairs0 ⟨?_, [(Sum.inr "rows", .ref r0), (Sum.inr "wide", .ref D), (Sum.inr "ins", .ref r1), (Sum.inr "rests", .ref r2), (Sum.inr "tables", .ref r3), (Sum.inr "memories", .ref r4)], rfl, Nat.le_of_ble_eq_true rfl, ?_⟩
  · obtain ⟨_, n0⟩ := up_n hr0
    obtain ⟨g1, _⟩ := up_n hr1
    obtain ⟨_, n1⟩ := up_n g1
    obtain ⟨g2, _⟩ := up_n hr2
    obtain ⟨g2, _⟩ := up_n g2
    obtain ⟨_, n2⟩ := up_n g2
    obtain ⟨g3, _⟩ := up_n hr3
    obtain ⟨g3, _⟩ := up_n g3
    obtain ⟨g3, _⟩ := up_n g3
    obtain ⟨_, n3⟩ := up_n g3
    obtain ⟨g4, _⟩ := up_n hr4
    obtain ⟨g4, _⟩ := up_n g4
    obtain ⟨g4, _⟩ := up_n g4
    obtain ⟨g4, _⟩ := up_n g4
    obtain ⟨_, n4⟩ := up_n g4
    rw [upd_ne n4.symm, upd_ne n3.symm, upd_ne n2.symm, upd_ne n1.symm, upd_ne n0.symm, upd_same]
  obtain ⟨q0, m0p⟩ := up_n hr0
  obtain ⟨q1, m10⟩ := up_n hr1
  obtain ⟨q1, m1p⟩ := up_n q1
  obtain ⟨q2, m21⟩ := up_n hr2
  obtain ⟨q2, m20⟩ := up_n q2
  obtain ⟨q2, m2p⟩ := up_n q2
  obtain ⟨q3, m32⟩ := up_n hr3
  obtain ⟨q3, m31⟩ := up_n q3
  obtain ⟨q3, m30⟩ := up_n q3
  obtain ⟨q3, m3p⟩ := up_n q3
  obtain ⟨q4, m43⟩ := up_n hr4
  obtain ⟨q4, m42⟩ := up_n q4
  obtain ⟨q4, m41⟩ := up_n q4
  obtain ⟨q4, m40⟩ := up_n q4
  obtain ⟨q4, m4p⟩ := up_n q4
  have eM : mergeK [] [(Sum.inr "rows", .ref r0), (Sum.inr "wide", .ref D), (Sum.inr "ins", .ref r1), (Sum.inr "rests", .ref r2), (Sum.inr "tables", .ref r3), (Sum.inr "memories", .ref r4)] = ([(Sum.inr "rows", .ref r0), (Sum.inr "wide", .ref D), (Sum.inr "ins", .ref r1), (Sum.inr "rests", .ref r2), (Sum.inr "tables", .ref r3), (Sum.inr "memories", .ref r4)] : List (Key × V)) := rfl
  rw [eM]
  have ex : Ex H2 (upd (upd (upd (upd (upd (upd (upd H2 p (.dK [])) r0 (.lst [])) r1 (.lst [])) r2 (.lst [])) r3 (.lst [])) r4 (.lst [])) p (.dK [(Sum.inr "rows", .ref r0), (Sum.inr "wide", .ref D), (Sum.inr "ins", .ref r1), (Sum.inr "rests", .ref r2), (Sum.inr "tables", .ref r3), (Sum.inr "memories", .ref r4)])) :=
    Ex.mut (((((((Ex.new hp).trans (Ex.new hr0)).trans (Ex.new hr1)).trans (Ex.new hr2)).trans (Ex.new hr3)).trans (Ex.new hr4))) hp
  have f0 : (upd (upd (upd (upd (upd (upd (upd H2 p (.dK [])) r0 (.lst [])) r1 (.lst [])) r2 (.lst [])) r3 (.lst [])) r4 (.lst [])) p (.dK [(Sum.inr "rows", .ref r0), (Sum.inr "wide", .ref D), (Sum.inr "ins", .ref r1), (Sum.inr "rests", .ref r2), (Sum.inr "tables", .ref r3), (Sum.inr "memories", .ref r4)])) r0 = some (.lst []) := by
    rw [upd_ne m0p, upd_ne m40.symm, upd_ne m30.symm, upd_ne m20.symm, upd_ne m10.symm, upd_same]
  have f1 : (upd (upd (upd (upd (upd (upd (upd H2 p (.dK [])) r0 (.lst [])) r1 (.lst [])) r2 (.lst [])) r3 (.lst [])) r4 (.lst [])) p (.dK [(Sum.inr "rows", .ref r0), (Sum.inr "wide", .ref D), (Sum.inr "ins", .ref r1), (Sum.inr "rests", .ref r2), (Sum.inr "tables", .ref r3), (Sum.inr "memories", .ref r4)])) r1 = some (.lst []) := by
    rw [upd_ne m1p, upd_ne m41.symm, upd_ne m31.symm, upd_ne m21.symm, upd_same]
  have f2 : (upd (upd (upd (upd (upd (upd (upd H2 p (.dK [])) r0 (.lst [])) r1 (.lst [])) r2 (.lst [])) r3 (.lst [])) r4 (.lst [])) p (.dK [(Sum.inr "rows", .ref r0), (Sum.inr "wide", .ref D), (Sum.inr "ins", .ref r1), (Sum.inr "rests", .ref r2), (Sum.inr "tables", .ref r3), (Sum.inr "memories", .ref r4)])) r2 = some (.lst []) := by
    rw [upd_ne m2p, upd_ne m42.symm, upd_ne m32.symm, upd_same]
  have f3 : (upd (upd (upd (upd (upd (upd (upd H2 p (.dK [])) r0 (.lst [])) r1 (.lst [])) r2 (.lst [])) r3 (.lst [])) r4 (.lst [])) p (.dK [(Sum.inr "rows", .ref r0), (Sum.inr "wide", .ref D), (Sum.inr "ins", .ref r1), (Sum.inr "rests", .ref r2), (Sum.inr "tables", .ref r3), (Sum.inr "memories", .ref r4)])) r3 = some (.lst []) := by
    rw [upd_ne m3p, upd_ne m43.symm, upd_same]
  have f4 : (upd (upd (upd (upd (upd (upd (upd H2 p (.dK [])) r0 (.lst [])) r1 (.lst [])) r2 (.lst [])) r3 (.lst [])) r4 (.lst [])) p (.dK [(Sum.inr "rows", .ref r0), (Sum.inr "wide", .ref D), (Sum.inr "ins", .ref r1), (Sum.inr "rests", .ref r2), (Sum.inr "tables", .ref r3), (Sum.inr "memories", .ref r4)])) r4 = some (.lst []) := by
    rw [upd_ne m4p, upd_same]
  have fd : (upd (upd (upd (upd (upd (upd (upd H2 p (.dK [])) r0 (.lst [])) r1 (.lst [])) r2 (.lst [])) r3 (.lst [])) r4 (.lst [])) p (.dK [(Sum.inr "rows", .ref r0), (Sum.inr "wide", .ref D), (Sum.inr "ins", .ref r1), (Sum.inr "rests", .ref r2), (Sum.inr "tables", .ref r3), (Sum.inr "memories", .ref r4)])) p = some (.dK [(Sum.inr "rows", .ref r0), (Sum.inr "wide", .ref D), (Sum.inr "ins", .ref r1), (Sum.inr "rests", .ref r2), (Sum.inr "tables", .ref r3), (Sum.inr "memories", .ref r4)]) := upd_same
  generalize (upd (upd (upd (upd (upd (upd (upd H2 p (.dK [])) r0 (.lst [])) r1 (.lst [])) r2 (.lst [])) r3 (.lst [])) r4 (.lst [])) p (.dK [(Sum.inr "rows", .ref r0), (Sum.inr "wide", .ref D), (Sum.inr "ins", .ref r1), (Sum.inr "rests", .ref r2), (Sum.inr "tables", .ref r3), (Sum.inr "memories", .ref r4)])) = Hf at ex f0 f1 f2 f3 f4 fd ⊢
  have noD : ∀ b, H2 b = none → b ≠ D := fun b hb z => by
    rw [z, h2] at hb
    cases hb
  have wa0 : WA Hf p D (fiveA r0 r1 r2 r3 r4) ⟨wide, [], [], [], []⟩ [] := by
    refine ⟨fd, ex _ _ h2, fun j hj => ⟨[], ?_, ?_⟩, fun _ z => absurd z (by simp), fun i j hi hj e => ?_, fun j hj => ?_⟩
    · match j, hj with
      | 0, _ => exact f0
      | 1, _ => exact f1
      | 2, _ => exact f2
      | 3, _ => exact f3
      | 4, _ => exact f4
    · match j, hj with
      | 0, _ | 1, _ | 2, _ | 3, _ | 4, _ => exact ⟨rfl, fun j x y hx => by simp at hx⟩
    · match i, j, hi, hj with
      | 0, 0, _, _ | 1, 1, _, _ | 2, 2, _, _ | 3, 3, _, _ | 4, 4, _, _ => rfl
      | 0, 1, _, _ => exact absurd e.symm m10
      | 0, 2, _, _ => exact absurd e.symm m20
      | 0, 3, _, _ => exact absurd e.symm m30
      | 0, 4, _, _ => exact absurd e.symm m40
      | 1, 0, _, _ => exact absurd e m10
      | 1, 2, _, _ => exact absurd e.symm m21
      | 1, 3, _, _ => exact absurd e.symm m31
      | 1, 4, _, _ => exact absurd e.symm m41
      | 2, 0, _, _ => exact absurd e m20
      | 2, 1, _, _ => exact absurd e m21
      | 2, 3, _, _ => exact absurd e.symm m32
      | 2, 4, _, _ => exact absurd e.symm m42
      | 3, 0, _, _ => exact absurd e m30
      | 3, 1, _, _ => exact absurd e m31
      | 3, 2, _, _ => exact absurd e m32
      | 3, 4, _, _ => exact absurd e.symm m43
      | 4, 0, _, _ => exact absurd e m40
      | 4, 1, _, _ => exact absurd e m41
      | 4, 2, _, _ => exact absurd e m42
      | 4, 3, _, _ => exact absurd e m43
    · match j, hj with
      | 0, _ => exact noD _ q0
      | 1, _ => exact noD _ q1
      | 2, _ => exact noD _ q2
      | 3, _ => exact noD _ q3
      | 4, _ => exact noD _ q4
  have new2 : ∀ b ∈ [r1, r2, r3, r4], H2 b = none := fun b hb => by
    simp only [List.mem_cons, List.not_mem_nil, or_false] at hb
    rcases hb with rfl | rfl | rfl | rfl <;> assumption
  have newH : ∀ b, H2 b = none → H b = none := fun b hb => (u1.trans u2).fresh hb (hD2.ne hb)
  have newA : ∀ b ∈ adr p D (fiveA r0 r1 r2 r3 r4), H b = none := fun b hb => by
    have hb' : b = p ∨ b = D ∨ b = r0 ∨ b = r1 ∨ b = r2 ∨ b = r3 ∨ b = r4 := by simpa [adr, fiveA] using hb
    rcases hb' with rfl | rfl | rfl | rfl | rfl | rfl | rfl
    · exact newH _ hp
    · exact u1.fresh hD0 (hD1.ne hD0)
    · exact newH _ q0
    · exact newH _ q1
    · exact newH _ q2
    · exact newH _ q3
    · exact newH _ q4
  have hDf := hD2.ex ex
  have wok0 : (⟨wide, [], [], [], []⟩ : Wo).ok := ⟨⟨hlen, hws⟩, ⟨Nat.zero_le _, fun _ z => absurd z (by simp)⟩, ⟨Nat.zero_le _, fun _ z => absurd z (by simp)⟩, ⟨Nat.zero_le _, fun _ z => absurd z (by simp)⟩, ⟨Nat.zero_le _, fun _ z => absurd z (by simp)⟩⟩
  clear hr0 hr1 hr2 hr3 hr4 f0 f1 f2 f3 f4 fd
  have nAd : ∀ b ∈ adr p D (fiveA r0 r1 r2 r3 r4), b ∉ [d] := fun b hb => hD.ne (newA b hb)
  have hlf : Hf l = some (.lst (zs.map V.str)) := ex _ _ ((u1.trans u2) _ _ (fun z => ld (List.mem_singleton.mp z)) hl)
  have lB : l ∉ [d, r1, r2, r3, r4] := fun z => by
    rcases List.mem_cons.mp z with z | z
    · exact ld z
    · have := newH _ (new2 l z)
      rw [hl] at this
      cases this
  have nx : ∀ (H5 : Hp) (W : Wo) (k5 : Nat) (Q5 : VK), Dr K H5 d a ns k5 → k5 ≤ 1500 → WA H5 p D (fiveA r0 r1 r2 r3 r4) W [] → But [d, r1, r2, r3, r4] Hf H5 → (∀ (c : Int) H6, 0 ≤ c → c < 33554432 → Dr K H6 d a ns (k5 + 1) → WA H6 p D (fiveA r0 r1 r2 r3 r4) W [] → But [d, r1, r2, r3, r4] Hf H6 → But [d] H5 H6 → Q5 (.int c) H6) → sp_L_next K [.ref d] H5 Q5 E0 := fun H5 W k5 Q5 h5 hk5 w5 u5 hq =>
    ⟨d, a, ns, k5, rfl, h5, by omega, fun c H6 c0 c1 h6 u6 => hq c H6 c0 c1 h6 (w5.but u6 nAd fun b hb ys z => by rw [List.mem_singleton.mp hb, h5.1] at z; cases z) (u5.trans (u6.mono fun b hb => by rw [List.mem_singleton.mp hb]; simp)) u6⟩
  have wid : ∀ (H5 : Hp) (W : Wo) (c : Int) (Q5 : VK), WA H5 p D (fiveA r0 r1 r2 r3 r4) W [] → W.wide = wide → 0 ≤ c → (∀ w, w ∈ wide → Q5 (vi w) H5) → rIxL K (.ref D) (.int (c % 3)) H5 Q5 := fun H5 W c Q5 w5 e5 c0 hq => by
    have g := w5.w
    rw [e5] at g
    obtain ⟨v, hv, hm⟩ := at_some (l := wide.map vi) (i := c % 3) (by omega) (by rw [List.length_map, hlen]; show _ < ((3 : Nat) : Int); omega)
    obtain ⟨w, hw, rfl⟩ := List.mem_map.mp hm
    exact z_ixL (sq_of g) hv (hq w hw)
  have nam : ∀ (H5 : Hp) (j : Int) (Q5 : VK), But [d, r1, r2, r3, r4] Hf H5 → 0 ≤ j → j < 16 → (∀ z, okT z 20 → Q5 (.str z) H5) → rIxL K (.ref l) (.int j) H5 Q5 := fun H5 j Q5 u5 j0 j1 hq => by
    obtain ⟨v, hv, hm⟩ := at_some (l := zs.map V.str) (i := j) j0 (by rw [List.length_map, hz]; exact j1)
    obtain ⟨z, hz', rfl⟩ := List.mem_map.mp hm
    exact z_ixL (sq_of (u5 _ _ lB hlf)) hv (hq z (hzs z hz'))
  have rB : ∀ j, j < 5 → j ≠ 0 → fiveA r0 r1 r2 r3 r4 j ∈ [r1, r2, r3, r4] := fun j hj h0 => by
    match j, hj with
    | 0, _ => exact absurd rfl h0
    | 1, _ | 2, _ | 3, _ | 4, _ => simp [fiveA]
  have app : ∀ (j : Nat) (H5 : Hp) (W W' : Wo) (t : Addr) (y : List V) (k5 : Nat) (Q5 : VK), j < 5 → j ≠ 0 → WA H5 p D (fiveA r0 r1 r2 r3 r4) W [] → H5 t = some (.tup y) → W'.its [] j = W.its [] j ++ [y] → (∀ i, i < 5 → i ≠ j → W'.its [] i = W.its [] i) → W'.wide = W.wide → (∀ p ∈ W'.tabs, H5 p.2.1 = some (.tup (p.2.2.map vi))) → (W.its [] j).length ≤ 10 →
      Dr K H5 d a ns k5 → But [d, r1, r2, r3, r4] Hf H5 → (∀ H6, WA H6 p D (fiveA r0 r1 r2 r3 r4) W' [] → Dr K H6 d a ns k5 → But [d, r1, r2, r3, r4] Hf H6 → Q5 .non H6) → rAppend (.ref (fiveA r0 r1 r2 r3 r4 j)) [.ref t] H5 Q5 := fun j H5 W W' t y k5 Q5 hj h0 w5 ht e1 e2 ew et hl5 h5 u5 hq => by
    obtain ⟨xs, g, hx⟩ := w5.l j hj
    have hb := new2 _ (rB j hj h0)
    refine z_rapp g (by rw [hx.1]; exact szlt (by omega)) (hq _ (w5.add hj g hx ht e1 e2 ew et) (h5.but (But.put (by simp)) (hD2.nd hb) (hD2.ap fun b hb' => by rw [List.mem_singleton.mp hb']; exact hb)) (u5.put' (List.mem_cons_of_mem _ (rB j hj h0))))
  have its_tyl : ∀ (j : Nat) (H5 : Hp) (W : Wo) {R : Prop}, j < 5 → WA H5 p D (fiveA r0 r1 r2 r3 r4) W [] → R → tyV K "list" (.ref (fiveA r0 r1 r2 r3 r4 j)) H5 ∧ R := fun j H5 W R hj w5 r => by
    obtain ⟨xs, g, _⟩ := w5.l j hj
    exact z_tyl (sq_of g) r
  walk_at "zz"
  refine z_FR1 (by omega) (fun i σ' H5 => ∃ (y5 y6 y7 y8 : Option V) (W : Wo) (k5 : Nat), σ' = [some (.ref d), some (.ref l), some (.int n), some (.ref D), some (.ref p), y5, y6, y7, y8] ∧ Dr K H5 d a ns k5 ∧ k5 = k + 4 + i ∧ But [d, r1, r2, r3, r4] Hf H5 ∧ WA H5 p D (fiveA r0 r1 r2 r3 r4) W [] ∧ W.ok ∧ W.wide = wide ∧ W.ins.length = i ∧ W.rests = [] ∧ W.tabs = [] ∧ W.mems = []) ?_ ?_ ?_
  · exact ⟨none, none, none, none, _, k + 4, rfl, hDf, rfl, But.refl, wa0, wok0, rfl, rfl, rfl, rfl, rfl⟩
  · rintro i σ' H5 hi ⟨y5, y6, y7, y8, W, k5, rfl, h5, hk5, u5, w5, wok, ew, l1, l2, l3, l4⟩
    have hi4 : i < 4 := by omega
    walk_at "zz"
    refine ⟨_, .ref r1, rfl, dgK w5.d rfl, ?_⟩
    refine its_tyl 1 H5 W (by decide) w5 ?_
    walk_at "zz"
    refine nam H5 i _ u5 (by omega) (by omega) fun z hz1 => ?_
    walk_at "zz"
    refine nx H5 W k5 _ h5 (by omega) w5 u5 fun c H6 c0 c1 h6 w6 u6 _ => ?_
    walk_at "zz"
    refine wid H6 W c _ w6 ew c0 fun w hw => ?_
    walk_at "zz"
    refine ⟨szl (by simp), fun t ht => ?_⟩
    have e7 := Ex.new (o := .tup [.str z, vi w]) ht
    walk_at "zz"
    refine app 1 _ W { W with ins := W.ins ++ [(z, w)] } t [.str z, vi w] (k5 + 1) _ (by decide) (by decide) (w6.ex e7) upd_same ?_ ?_ rfl (w6.ex e7).t ?_ (h6.ex e7) (u6.trans (But.ex e7)) fun H8 w8 h8 u8 => ?_
    · show (W.ins ++ [(z, w)]).map _ = _
      rw [List.map_append] <;> rfl
    · intro j hj hne
      match j, hne with
      | 0, _ | 2, _ | 3, _ => rfl
      | j + 4, _ => rfl
    · show (W.ins.map _).length ≤ 10
      rw [List.length_map]
      omega
    · refine ⟨_, y6, y7, y8, _, k5 + 1, rfl, h8, by omega, u8, w8, ⟨wok.wide, ⟨?_, ?_⟩, wok.rests, wok.tabs, wok.mems⟩, ew, ?_, l2, l3, l4⟩
      · show (W.ins ++ [(z, w)]).length ≤ 3
        rw [List.length_append, l1]
        show i + 1 ≤ 3
        have : (i : Int) < n % 4 := by omega
        omega
      · intro q' hq'
        rcases List.mem_append.mp hq' with hq' | hq'
        · exact wok.ins.2 q' hq'
        · rw [List.mem_singleton.mp hq']
          exact ⟨hz1.mono (by decide), by rw [ew]; exact hw⟩
      · show (W.ins ++ [(z, w)]).length = i + 1
        rw [List.length_append, l1] <;> rfl
  rintro σ' H5 ⟨y5, y6, y7, y8, W, k5, rfl, h5, hk5, u5, w5, wok, ew, l1, l2, l3, l4⟩
  have lr5 : W.ins.length ≤ 3 := wok.ins.1
  walk_at "zz"
  refine z_FR1 (by omega) (fun i σ' H5 => ∃ (y5 y6 y7 y8 : Option V) (W : Wo) (k5 : Nat), σ' = [some (.ref d), some (.ref l), some (.int n), some (.ref D), some (.ref p), y5, y6, y7, y8] ∧ Dr K H5 d a ns k5 ∧ k5 ≤ k + 8 + 2 * i ∧ But [d, r1, r2, r3, r4] Hf H5 ∧ WA H5 p D (fiveA r0 r1 r2 r3 r4) W [] ∧ W.ok ∧ W.wide = wide ∧ W.rests.length = i ∧ W.tabs = [] ∧ W.mems = []) ?_ ?_ ?_
  · exact ⟨y5, y6, y7, y8, W, k5, rfl, h5, by omega, u5, w5, wok, ew, by rw [l2] <;> rfl, l3, l4⟩
  · rintro i σ' H5 hi ⟨y5, y6, y7, y8, W, k5, rfl, h5, hk5, u5, w5, wok, ew, l2, l3, l4⟩
    have hi4 : i < 4 := by omega
    walk_at "zz"
    refine nx H5 W k5 _ h5 (by omega) w5 u5 fun c H6 c0 c1 h6 w6 u6 _ => ?_
    walk_at "zz"
    refine wid H6 W c _ w6 ew c0 fun w hw => ?_
    walk_at "zz"
    refine ⟨_, .ref r2, rfl, dgK w6.d rfl, ?_⟩
    refine its_tyl 2 H6 W (by decide) w6 ?_
    walk_at "zz"
    refine nam H6 _ _ u6 (by omega) (by omega) fun z hz1 => ?_
    walk_at "zz"
    have okr : okT (Str.ofString ".r") 2 := okT.of ".r" (by decide +kernel)
    refine z_addS (szl (by have := hz1.1; have := okr.1; omega)) ?_
    walk_at "zz"
    refine nx H6 W (k5 + 1) _ h6 (by omega) w6 u6 fun c2 H7 c20 c21 h7 w7 u7 _ => ?_
    walk_at "zz"
    obtain ⟨w1, w64⟩ := hws w hw
    refine ⟨c2, w, rfl, c20, ⟨w1, w64⟩, fun H8 e8 => ?_⟩
    obtain ⟨x, hx, hx2⟩ := wordN_b c2 w w1
    rw [hx]
    walk_at "zz"
    refine ⟨szl (by simp), fun t ht => ?_⟩
    have e9 := e8.trans (Ex.new (o := .tup [.str (z ++ Str.ofString ".r"), vi w, .int (x : Int)]) ht)
    walk_at "zz"
    refine app 2 _ W { W with rests := W.rests ++ [(z ++ Str.ofString ".r", w, x)] } t [.str (z ++ Str.ofString ".r"), vi w, vi x] (k5 + 2) _ (by decide) (by decide) (w7.ex e9) upd_same ?_ ?_ rfl (w7.ex e9).t ?_ (h7.ex e9) (u7.trans (But.ex e9)) fun H10 w10 h10 u10 => ?_
    · show (W.rests ++ [(z ++ Str.ofString ".r", w, x)]).map _ = _
      rw [List.map_append] <;> rfl
    · intro j hj hne
      match j, hne with
      | 0, _ | 1, _ | 3, _ => rfl
      | j + 4, _ => rfl
    · show (W.rests.map _).length ≤ 10
      rw [List.length_map]
      omega
    · refine ⟨_, _, y7, y8, _, k5 + 2, rfl, h10, by omega, u10, w10, ⟨wok.wide, wok.ins, ⟨?_, ?_⟩, wok.tabs, wok.mems⟩, ew, ?_, l3, l4⟩
      · show (W.rests ++ [(z ++ Str.ofString ".r", w, x)]).length ≤ 3
        rw [List.length_append, l2]
        show i + 1 ≤ 3
        omega
      · intro q' hq'
        rcases List.mem_append.mp hq' with hq' | hq'
        · exact wok.rests.2 q' hq'
        · rw [List.mem_singleton.mp hq']
          exact ⟨(hz1.app okr).mono (by decide), by rw [ew]; exact hw, hx2⟩
      · show (W.rests ++ [(z ++ Str.ofString ".r", w, x)]).length = i + 1
        rw [List.length_append, l2] <;> rfl
  rintro σ' H5 ⟨y5, y6, y7, y8, W, k5, rfl, h5, hk5, u5, w5, wok, ew, l2, l3, l4⟩
  have hk5' : k5 ≤ k + 20 := by omega
  walk_at "zz"
  refine z_FR1 (by omega) (fun i σ' H5 => ∃ (y5 y6 y7 y8 : Option V) (W : Wo) (k5 : Nat), σ' = [some (.ref d), some (.ref l), some (.int n), some (.ref D), some (.ref p), y5, y6, y7, y8] ∧ Dr K H5 d a ns k5 ∧ k5 ≤ k + 20 + 40 * i ∧ But [d, r1, r2, r3, r4] Hf H5 ∧ WA H5 p D (fiveA r0 r1 r2 r3 r4) W [] ∧ W.ok ∧ W.wide = wide ∧ W.tabs.length = i ∧ W.mems = []) ?_ ?_ ?_
  · exact ⟨y5, y6, y7, y8, W, k5, rfl, h5, by omega, u5, w5, wok, ew, by rw [l3] <;> rfl, l4⟩
  · rintro i σ' H5 hi ⟨y5, y6, y7, y8, W, k5, rfl, h5, hk5, u5, w5, wok, ew, l3, l4⟩
    have hi3 : i < 3 := by omega
    walk_at "zz"
    refine ⟨szl (by simp), fun ps hps => ?_⟩
    have ep := Ex.new (o := .lst [.int 1, .int 2, .int 3, .int 5, .int 32]) hps
    walk_at "zz"
    refine nx _ W k5 _ (h5.ex ep) (by omega) (w5.ex ep) (u5.trans (But.ex ep)) fun c H6 c0 c1 h6 w6 u6 v6 => ?_
    have hpsd : ps ∉ [d] := h5.ne hps
    have gps := v6 _ _ hpsd upd_same
    obtain ⟨v, hv, hm⟩ := at_some (l := [V.int 1, .int 2, .int 3, .int 5, .int 32]) (i := c % 5) (by omega) (by show _ < ((5 : Nat) : Int); omega)
    obtain ⟨sz, rfl, sz1, sz32⟩ : ∃ sz : Nat, v = vi sz ∧ 1 ≤ sz ∧ sz ≤ 32 := by
      simp only [List.mem_cons, List.not_mem_nil, or_false] at hm
      rcases hm with rfl | rfl | rfl | rfl | rfl
      · exact ⟨1, rfl, by decide, by decide⟩
      · exact ⟨2, rfl, by decide, by decide⟩
      · exact ⟨3, rfl, by decide, by decide⟩
      · exact ⟨5, rfl, by decide, by decide⟩
      · exact ⟨32, rfl, by decide, by decide⟩
    walk_at "zz"
    refine z_ixL (sq_of gps) hv ?_
    walk_at "zz"
    refine nx _ W (k5 + 1) _ h6 (by omega) w6 u6 fun c2 H7 c20 c21 h7 w7 u7 _ => ?_
    walk_at "zz"
    refine wid H7 W c2 _ w7 ew c20 fun w hw => ?_
    obtain ⟨w1, w64⟩ := hws w hw
    walk_at "zz"
    refine ⟨_, .ref r3, rfl, dgK w7.d rfl, ?_⟩
    refine its_tyl 3 H7 W (by decide) w7 ?_
    walk_at "zz"
    refine z_CR1w (by omega) (fun Dc j H8 => ∃ xs : List Nat, H8 Dc = some (.lst (xs.map vi)) ∧ xs.length = j ∧ (∀ x ∈ xs, x < 2 ^ w) ∧ Dr K H8 d a ns (k5 + 2 + j) ∧ But [d, r1, r2, r3, r4] Hf H8 ∧ WA H8 p D (fiveA r0 r1 r2 r3 r4) W []) (fun Dc hDc => ⟨[], upd_same, rfl, (fun x hx => absurd hx (by simp)), h7.ex (Ex.new hDc), u7.trans (But.ex (Ex.new hDc)), w7.ex (Ex.new hDc)⟩) (fun _ => rfl) (fun Dc j H8 hDc hj hP => ?_) (fun Dc H8 hDc hP => ?_)
    · obtain ⟨xs, g8, lj, hxs, h8, u8, w8⟩ := hP
      have hj32 : j < 32 := by omega
      walk_at "zz"
      refine nx _ W (k5 + 2 + j) _ h8 (by omega) w8 u8 fun c3 H9 c30 c31 h9 w9 u9 v9 => ?_
      walk_at "zz"
      refine ⟨c3, w, rfl, c30, ⟨w1, w64⟩, fun H10 e10 => ?_⟩
      obtain ⟨x, hx, hx2⟩ := wordN_b c3 w w1
      rw [hx]
      have hDd : Dc ∉ [d] := h7.ne hDc
      have g10 := e10 _ _ (v9 _ _ hDd g8)
      refine ⟨xs.map vi, g10, by rw [List.length_map]; exact szlt (by omega), xs ++ [x], ?_, by rw [List.length_append, lj] <;> rfl, fun y hy => ?_, ?_, ?_, ?_⟩
      · rw [upd_same, List.map_append] <;> rfl
      · rcases List.mem_append.mp hy with hy | hy
        · exact hxs y hy
        · rw [List.mem_singleton.mp hy]
          exact hx2
      · exact (h9.ex e10).but (But.put (by simp)) (h7.nd hDc) (h7.ap fun b hb => by rw [List.mem_singleton.mp hb]; exact hDc)
      · refine (u9.trans (But.ex e10)).mut ?_
        exact u7.fresh hDc fun z => by
          rcases List.mem_cons.mp z with z | z
          · exact hDd (by rw [z]; simp)
          · obtain ⟨j2, hj2, _, e2⟩ : ∃ j2, j2 < 5 ∧ j2 ≠ 0 ∧ fiveA r0 r1 r2 r3 r4 j2 = Dc := by
              simp only [List.mem_cons, List.not_mem_nil, or_false] at z
              rcases z with rfl | rfl | rfl | rfl
              · exact ⟨1, by decide, by decide, rfl⟩
              · exact ⟨2, by decide, by decide, rfl⟩
              · exact ⟨3, by decide, by decide, rfl⟩
              · exact ⟨4, by decide, by decide, rfl⟩
            exact w7.ne hDc _ (adr_A hj2) (by rw [e2]; simp)
      · exact (w9.ex e10).but (But.put (by simp)) (w7.ne hDc) fun b hb ys z => by
          rw [List.mem_singleton.mp hb, g10] at z
          cases z
    · obtain ⟨xs, g8, lj, hxs, h8, u8, w8⟩ := hP
      have lj' : xs.length = sz := by rw [lj, Int.toNat_natCast]
      walk_at "zz"
      refine ⟨Dc, xs.map vi, rfl, .inl ⟨sq_of g8, fun u hu => ?_⟩⟩
      walk_at "zz"
      refine ⟨szl (by simp), fun t ht => ?_⟩
      have eu := Ex.new (o := .tup (xs.map vi)) hu
      have et := Ex.new (o := .tup [vi w, .ref u]) ht
      have e9 := eu.trans et
      walk_at "zz"
      refine app 3 _ W { W with tabs := W.tabs ++ [(w, u, xs)] } t [vi w, .ref u] (k5 + 2 + (sz : Int).toNat) _ (by decide) (by decide) (w8.ex e9) upd_same ?_ ?_ rfl ?_ ?_ (h8.ex e9) (u8.trans (But.ex e9)) fun H10 w10 h10 u10 => ?_
      · show (W.tabs ++ [(w, u, xs)]).map _ = _
        rw [List.map_append] <;> rfl
      · intro j hj hne
        match j, hne with
        | 0, _ | 1, _ | 2, _ => rfl
        | j + 4, _ => rfl
      · intro q' hq'
        rcases List.mem_append.mp hq' with hq' | hq'
        · exact (w8.ex e9).t q' hq'
        · rw [List.mem_singleton.mp hq']
          exact et _ _ upd_same
      · show (W.tabs.map _).length ≤ 10
        rw [List.length_map]
        omega
      · refine ⟨_, _, _, y8, _, _, rfl, h10, by omega, u10, w10, ⟨wok.wide, wok.ins, wok.rests, ⟨?_, ?_⟩, wok.mems⟩, ew, ?_, l4⟩
        · show (W.tabs ++ [(w, u, xs)]).length ≤ 2
          rw [List.length_append, l3]
          show i + 1 ≤ 2
          omega
        · intro q' hq'
          rcases List.mem_append.mp hq' with hq' | hq'
          · exact wok.tabs.2 q' hq'
          · rw [List.mem_singleton.mp hq']
            exact ⟨by rw [ew]; exact hw, ⟨by rw [lj']; exact sz1, by rw [lj']; exact sz32⟩, hxs⟩
        · show (W.tabs ++ [(w, u, xs)]).length = i + 1
          rw [List.length_append, l3] <;> rfl
  rintro σ' H5 ⟨y5, y6, y7, y8, W, k5, rfl, h5, hk5, u5, w5, wok, ew, l3, l4⟩
  have hk5' : k5 ≤ k + 100 := by omega
  walk_at "zz"
  refine z_FR1 (by omega) (fun i σ' H5 => ∃ (y5 y6 y7 y8 : Option V) (W : Wo) (k5 : Nat), σ' = [some (.ref d), some (.ref l), some (.int n), some (.ref D), some (.ref p), y5, y6, y7, y8] ∧ Dr K H5 d a ns k5 ∧ k5 ≤ k + 100 + 2 * i ∧ But [d, r1, r2, r3, r4] Hf H5 ∧ WA H5 p D (fiveA r0 r1 r2 r3 r4) W [] ∧ W.ok ∧ W.wide = wide ∧ W.mems.length = i) ?_ ?_ ?_
  · exact ⟨y5, y6, y7, y8, W, k5, rfl, h5, by omega, u5, w5, wok, ew, by rw [l4] <;> rfl⟩
  · rintro i σ' H5 hi ⟨y5, y6, y7, y8, W, k5, rfl, h5, hk5, u5, w5, wok, ew, l4⟩
    have hi3 : i < 3 := by omega
    walk_at "zz"
    refine ⟨szl (by simp), fun ps hps => ?_⟩
    have ep := Ex.new (o := .lst [.int 1, .int 2, .int 3, .int 4, .int 32]) hps
    walk_at "zz"
    refine nx _ W k5 _ (h5.ex ep) (by omega) (w5.ex ep) (u5.trans (But.ex ep)) fun c H6 c0 c1 h6 w6 u6 v6 => ?_
    have hpsd : ps ∉ [d] := h5.ne hps
    have gps := v6 _ _ hpsd upd_same
    obtain ⟨v, hv, hm⟩ := at_some (l := [V.int 1, .int 2, .int 3, .int 4, .int 32]) (i := c % 5) (by omega) (by show _ < ((5 : Nat) : Int); omega)
    obtain ⟨sz, rfl, sz1, sz32⟩ : ∃ sz : Nat, v = vi sz ∧ 1 ≤ sz ∧ sz ≤ 32 := by
      simp only [List.mem_cons, List.not_mem_nil, or_false] at hm
      rcases hm with rfl | rfl | rfl | rfl | rfl
      · exact ⟨1, rfl, by decide, by decide⟩
      · exact ⟨2, rfl, by decide, by decide⟩
      · exact ⟨3, rfl, by decide, by decide⟩
      · exact ⟨4, rfl, by decide, by decide⟩
      · exact ⟨32, rfl, by decide, by decide⟩
    walk_at "zz"
    refine z_ixL (sq_of gps) hv ?_
    walk_at "zz"
    refine ⟨_, .ref r4, rfl, dgK w6.d rfl, ?_⟩
    refine its_tyl 4 H6 W (by decide) w6 ?_
    walk_at "zz"
    refine nam H6 _ _ u6 (by omega) (by omega) fun z hz1 => ?_
    walk_at "zz"
    refine nx _ W (k5 + 1) _ h6 (by omega) w6 u6 fun c2 H7 c20 c21 h7 w7 u7 _ => ?_
    walk_at "zz"
    refine wid H7 W c2 _ w7 ew c20 fun w hw => ?_
    walk_at "zz"
    refine ⟨szl (by simp), fun t ht => ?_⟩
    have e9 := Ex.new (o := .tup [.str z, vi w, vi sz]) ht
    walk_at "zz"
    refine app 4 _ W { W with mems := W.mems ++ [(z, w, sz)] } t [.str z, vi w, vi sz] (k5 + 2) _ (by decide) (by decide) (w7.ex e9) upd_same ?_ ?_ rfl (w7.ex e9).t ?_ (h7.ex e9) (u7.trans (But.ex e9)) fun H10 w10 h10 u10 => ?_
    · show (W.mems ++ [(z, w, sz)]).map _ = _
      rw [List.map_append] <;> rfl
    · intro j hj hne
      match j, hne, hj with
      | 0, _, _ | 1, _, _ | 2, _, _ | 3, _, _ => rfl
      | j + 5, _, hj => exact absurd hj (by omega)
    · show (W.mems.map _).length ≤ 10
      rw [List.length_map]
      omega
    · refine ⟨_, y6, _, y8, _, k5 + 2, rfl, h10, by omega, u10, w10, ⟨wok.wide, wok.ins, wok.rests, wok.tabs, ⟨?_, ?_⟩⟩, ew, ?_⟩
      · show (W.mems ++ [(z, w, sz)]).length ≤ 2
        rw [List.length_append, l4]
        show i + 1 ≤ 2
        omega
      · intro q' hq'
        rcases List.mem_append.mp hq' with hq' | hq'
        · exact wok.mems.2 q' hq'
        · rw [List.mem_singleton.mp hq']
          exact ⟨hz1.mono (by decide), by rw [ew]; exact hw, sz1, sz32⟩
      · show (W.mems ++ [(z, w, sz)]).length = i + 1
        rw [List.length_append, l4] <;> rfl
  rintro σ' H5 ⟨y5, y6, y7, y8, W, k5, rfl, h5, hk5, u5, w5, wok, ew, l4⟩
  walk_at "zz"
  refine q H5 p D (fiveA r0 r1 r2 r3 r4) W k5 h5 (by omega) (fun b o hb ho => ?_) w5 wok newA
  refine u5 b o (fun z => ?_) (ex b o ((u1.trans u2) b o hb ho))
  rcases List.mem_cons.mp z with z | z
  · exact hb (by rw [z]; simp)
  · have := newH _ (new2 b z)
    rw [ho] at this
    cases this
theorem ex_but {H Hs H' : Hp} {B : List Addr} (e : Ex H Hs) (u : But B Hs H') (f : ∀ b ∈ B, H b = none) : Ex H H' := fun b o h => u b o (fun z => by
  rw [f b z] at h
  cases h) (e b o h)
theorem vr_L_net (vs H Q E) (h : sp_L_net K vs H Q E) : (rd_L_net K) { nx := fun _ H' => Q .non H', rt := Q } (start ["_law_script", "_law_draw", "_law_names_here", "_law_world", "_law_rows", "_law_cell_here", "_law_rests", "_law_memories", "_law_memory", "_law_place", "_law_value", "_law_number", "_law_outs", "_law_tables", "_law_rest", "_law_k", "_law_table"] vs) H := by
  obtain ⟨a, ns, rfl, ha, hn, q⟩ := h
  unfold rd_L_net
  walk_at "zz"
  refine ⟨szl (by simp), fun d hd => ?_⟩
  have e1 := Ex.new (o := .lst [.ref a, .int 0]) hd
  have hD1 : Dr K (upd H d (.lst [.ref a, .int 0])) d a ns 0 := ⟨upd_same, ex_l e1 ha⟩
  walk_at "zz"
  refine ⟨a, ns, 0, rfl, ex_l e1 ha, by decide, fun H2 e2 => ?_⟩
  walk_at "zz"
  obtain ⟨b0, b1⟩ := cellN_b ns 0
  refine ⟨_, rfl, ⟨b0, b1⟩, fun zs hz hzs l H3 hl3 e3 gl => ?_⟩
  walk_at "zz"
  have e13 := (e1.trans e2).trans e3
  have hD3 : Dr K H3 d a ns 0 := hD1.ex (e2.trans e3)
  refine ⟨d, a, l, ns, 0, zs, rfl, hD3, by decide, gl, hz, hzs, fun H4 wd pw A W k4 hD4 hk4 u4 hW4 hw hnew => ?_⟩
  have nd : ∀ b ∈ adr wd pw A, b ∉ [d] := fun b hb => hD3.ne (hnew b hb)
  have newH : ∀ b ∈ adr wd pw A, H b = none := fun b hb => by
    cases e : H b with
    | none => rfl
    | some o =>
      have := hnew b hb
      rw [e13 _ _ e] at this
      cases this
  walk_at "zz"
  refine ⟨d, a, wd, pw, ns, k4, A, W, rfl, hD4, by omega, hW4, hw, fun z => nd d z (by simp), hD3.ap hnew, fun H5 k5 rs hD5 hk5 u5 hW5 hg hl => ?_⟩
  have eH5 : Ex H H5 := ex_but (ex_but e13 u4 fun b hb => by rw [List.mem_singleton.mp hb]; exact hd) u5 fun b hb => by
    rcases List.mem_cons.mp hb with z | z
    · rw [z]
      exact hd
    · rw [List.mem_singleton.mp z]
      exact newH _ (adr_A (by decide))
  walk_at "zz"
  refine ⟨_, .ref (A 0), rfl, dgK hW5.d rfl, ?_⟩
  walk_at "zz"
  refine z_slL (ex_l eH5 ha) fun ps hps => ?_
  have ec : ∀ x ∈ cutV (ns.map V.int) none (some 200), ∃ i : Int, x = .int i := fun x hx => by
    obtain ⟨i, _, rfl⟩ := List.mem_map.mp (cutV_mem hx)
    exact ⟨i, rfl⟩
  have lc : (cutV (ns.map V.int) none (some 200)).length ≤ 63 := by
    unfold cutV
    rw [List.length_take, List.length_drop, List.length_map]
    omega
  generalize cutV (ns.map V.int) none (some 200) = cs at ec lc
  have e6 := Ex.new (o := .lst cs) hps
  have psA : ps ∉ [A 0] := fun z => by
    obtain ⟨xs, g, _⟩ := hW5.l 0 (by decide)
    rw [List.mem_singleton.mp z, g] at hps
    cases hps
  have dA0 : d ∉ [A 0] := fun z => nd (A 0) (adr_A (by decide)) (by rw [List.mem_singleton.mp z]; simp)
  have ap0 : Ap K a ns [A 0] := (hD3.ap hnew).mono fun b hb => by
    rw [List.mem_singleton.mp hb]
    exact adr_A (by decide)
  have ld : l ≠ d := fun z => by
    rw [z, hD3.1] at gl
    cases zs with
    | nil => cases hz
    | cons z r => cases gl
  have lA : ∀ b ∈ adr wd pw A, l ≠ b := fun b hb z => by
    have := hnew b hb
    rw [← z, gl] at this
    cases this
  walk_at "zz"
  refine z_FL (sq_of upd_same) (fun i σ' H6 => ∃ (y5 : Option V) (rs : List Rw), σ' = [some (.ref a), some (.ref d), some (.ref l), some (.ref wd), some (.ref (A 0)), y5, none, none, none, none, none, none, none, none, none, none, none] ∧ But [A 0] (upd H5 ps (.lst cs)) H6 ∧ WA H6 wd pw A W rs ∧ Good W rs ∧ rs.length ≤ 10 + i) ?_ ?_ ?_ ?_
  · exact ⟨none, rs, rfl, But.refl, hW5.ex e6, hg, hl⟩
  · rintro i σ' H6 _ ⟨_, _, rfl, u6, _⟩
    exact sq_of (u6 _ _ psA upd_same)
  · rintro i x σ' H6 hi ex ⟨y5, rs, rfl, u6, hW6, hg6, hl6⟩
    obtain ⟨c, rfl⟩ := ec x (List.mem_of_getElem? ex)
    obtain ⟨xs, g, hx⟩ := hW6.l 0 (by decide)
    have lx : xs.length = rs.length := by rw [hx.1] <;> exact List.length_map ..
    walk_at "zz"
    refine z_tyl (sq_of g) ?_
    walk_at "zz"
    refine z_lenL (sq_of g) ?_
    walk_at "zz"
    refine ⟨c % 2147483647, (xs.length : Int), rfl, by omega, fun H7 e7 => ?_⟩
    obtain ⟨m0, m1⟩ := mixN_b (c % 2147483647) (xs.length : Int)
    walk_at "zz"
    refine ⟨wd, pw, A, W, rs, _, rfl, hW6.ex e7, hw, hg6, ⟨m0, m1⟩, by omega, fun r t H8 hr e8 ht => ?_⟩
    walk_at "zz"
    have w8 := (hW6.ex e7).ex e8
    refine z_rapp (e8 _ _ (e7 _ _ g)) (by rw [lx]; exact szlt (by omega)) ?_
    walk_at "zz"
    refine ⟨_, rs ++ [r], rfl, (u6.trans (But.ex (e7.trans e8))).put' (by simp), w8.add (by decide) (e8 _ _ (e7 _ _ g)) (its_mono (e7.trans e8) hx) ht ?_ ?_ rfl w8.t, hg6.snoc hr, by rw [List.length_append]; show rs.length + 1 ≤ _; omega⟩
    · show (rs ++ [r]).map Rw.vs = _
      rw [List.map_append] <;> rfl
    · intro j hj hne
      match j, hne with
      | 1, _ | 2, _ | 3, _ => rfl
      | j + 4, _ => rfl
  rintro σ' H6 ⟨y5, rs, rfl, u6, hW6, hg6, hl6⟩
  walk_at "zz"
  have hD6 : Dr K H6 d a ns k5 := (hD5.ex e6).but u6 dA0 ap0
  have eH6 : Ex H H6 := ex_but (eH5.trans e6) u6 fun b hb => by
    rw [List.mem_singleton.mp hb]
    exact newH _ (adr_A (by decide))
  have gl6 : H6 l = some (.lst (zs.map V.str)) := u6 _ _ (fun z => lA _ (adr_A (by decide)) (List.mem_singleton.mp z)) (e6 _ _ (u5 _ _ (fun z => by
    rcases List.mem_cons.mp z with z | z
    · exact ld z
    · exact lA _ (adr_A (by decide)) (List.mem_singleton.mp z)) (u4 _ _ (fun z => ld (List.mem_singleton.mp z)) gl)))
  have hrs : rs.length ≤ 73 := by omega
  clear hD5 hD4 hD1 hl u5 u4 hW4 hW5 hg e1 e2 e3
  obtain ⟨xr, gr, hxr⟩ := hW6.l 0 (by decide)
  have hxr : ItsAt H6 xr (rs.map Rw.vs) := hxr
  have lxr : xr.length = rs.length := by rw [hxr.1, List.length_map]
  obtain ⟨xs2, gs2, hxs2⟩ := hW6.l 2 (by decide)
  have hxs2 : ItsAt H6 xs2 (W.rests.map fun p => [.str p.1, vi p.2.1, vi p.2.2]) := hxs2
  have ls2 : xs2.length = W.rests.length := by rw [hxs2.1, List.length_map]
  obtain ⟨xs4, gs4, hxs4⟩ := hW6.l 4 (by decide)
  have hxs4 : ItsAt H6 xs4 (W.mems.map fun p => [.str p.1, vi p.2.1, vi p.2.2]) := hxs4
  have ls4 : xs4.length = W.mems.length := by rw [hxs4.1, List.length_map]
  obtain ⟨xs3, gs3, hxs3⟩ := hW6.l 3 (by decide)
  have hxs3 : ItsAt H6 xs3 (W.tabs.map fun p => [vi p.1, .ref p.2.1]) := hxs3
  have ls3 : xs3.length = W.tabs.length := by rw [hxs3.1, List.length_map]
  obtain ⟨xs1, gs1, hxs1⟩ := hW6.l 1 (by decide)
  have rests3 := hw.rests.1
  have mems2 := hw.mems.1
  have nAd : ∀ j, j < 5 → A j ∉ [d] := fun j hj => nd _ (adr_A hj)
  have tupd : ∀ {t : Addr} {y : List V}, H6 t = some (.tup y) → t ∉ [d] := fun ht z => by
    rw [List.mem_singleton.mp z, hD6.1] at ht
    cases ht
  -- drawing, all else staying
  have nx : ∀ (H7 : Hp) (k7 : Nat) (Q7 : VK), Dr K H7 d a ns k7 → k7 ≤ 5000 → But [d] H6 H7 → (∀ (c : Int) H8, 0 ≤ c → c < 33554432 → Dr K H8 d a ns (k7 + 1) → But [d] H6 H8 → But [d] H7 H8 → Q7 (.int c) H8) → sp_L_next K [.ref d] H7 Q7 E0 := fun H7 k7 Q7 h7 hk7 u7 hq =>
    ⟨d, a, ns, k7, rfl, h7, by omega, fun c H8 c0 c1 h8 u8 => hq c H8 c0 c1 h8 (u7.trans u8) u8⟩
  have keepT : ∀ {H7 : Hp} {t : Addr} {y : List V}, But [d] H6 H7 → H6 t = some (.tup y) → H7 t = some (.tup y) := fun u7 ht => u7 _ _ (tupd ht) ht
  have ofw : ∀ (w : Nat) (z : Int) (H7 : Hp) (Q7 : VK), But [d] H6 H7 → (0 ≤ z ∧ z < 33554432) → (∃ i, i < rs.length ∧ wAt rs i = w) → (∀ (b : Nat) H8, Ex H7 H8 → Q7 (vi b) H8) → sp_L_of_width K [.ref (A 0), vi w, .int z] H7 Q7 E0 := fun w z H7 Q7 u7 hz' hi hq =>
    ⟨A 0, xr, rs, w, z, rfl, u7 _ _ (nAd 0 (by decide)) gr, its_keep (fun t y g => keepT u7 g) hxr, hi, hz', by omega, fun b hb hwb => fun H8 e8 => hq b H8 e8⟩
  refine ⟨_, .ref (A 2), rfl, dgK hW6.d rfl, ?_⟩
  refine z_CLw (sq_of gs2) (fun Dc i H7 => ∃ (acc : List V) (k7 : Nat), H7 Dc = some (.lst acc) ∧ acc.length = i ∧ Dr K H7 d a ns k7 ∧ k7 ≤ 3000 + i ∧ But [d] H6 H7) (fun Dc hDc => ⟨[], k5, upd_same, rfl, hD6.ex (Ex.new hDc), by omega, But.ex (Ex.new hDc)⟩) (fun Dc i H7 hDc hP => ?_) (fun _ => rfl) (fun Dc i x H7 hDc hi ex hP => ?_) (fun Dc H7 hDc hP => ?_)
  · obtain ⟨_, _, _, _, _, _, u7⟩ := hP
    exact sq_of (u7 _ _ (nAd 2 (by decide)) gs2)
  · obtain ⟨acc, k7, ga, la, h7, hk7, u7⟩ := hP
    obtain ⟨tt, et, ht⟩ := its_at hxs2 (i := i) (by rw [List.length_map]; omega)
    rw [ex] at et
    cases et
    rw [List.getElem_map] at ht
    have hii : i < W.rests.length := by omega
    have hDd : Dc ∉ [d] := hD6.ne hDc
    walk_at "zz"
    refine z_ixT (st_of (keepT u7 ht)) (show atI _ ((1 : Nat) : Int) = some (vi (W.rests[i]'hii).2.1) from atI_nat rfl) ?_
    walk_at "zz"
    refine nx H7 k7 _ h7 (by omega) u7 fun c H8 c0 c1 h8 u8 v8 => ?_
    walk_at "zz"
    refine ofw _ c H8 _ u8 ⟨c0, c1⟩ (hg6.wide _ (hw.rests.2 _ (List.getElem_mem hii)).2.1) fun b H9 e9 => ?_
    walk_at "zz"
    refine ⟨szl (by simp), fun t ht' => ?_⟩
    have e10 := Ex.new (o := .tup [vi b]) ht'
    have g10 := e10 _ _ (e9 _ _ (v8 _ _ hDd ga))
    walk_at "zz"
    refine ⟨tt, t, _, [vi b], rfl, rfl, st_of (e10 _ _ (e9 _ _ (keepT u8 ht))), st_of upd_same, szl (by simp), fun h => (by cases h), fun _ h => (by cases h), fun _ _ t3 ht3 => ?_⟩
    have e11 := Ex.new (o := .tup ([.str (W.rests[i]'hii).1, vi (W.rests[i]'hii).2.1, vi (W.rests[i]'hii).2.2] ++ [vi b])) ht3
    refine ⟨acc, e11 _ _ g10, szlt (by omega), acc ++ [.ref t3], k7 + 1, upd_same, by rw [List.length_append, la] <;> rfl, ?_, by omega, ?_⟩
    · exact (((h8.ex e9).ex e10).ex e11).but (But.put (by simp)) (hD6.nd hDc) (hD6.ap fun b hb => by rw [List.mem_singleton.mp hb]; exact hDc)
    · exact (u8.trans (But.ex ((e9.trans e10).trans e11))).mut hDc
  obtain ⟨acc, k7, ga, la, h7, hk7, u7⟩ := hP
  walk_at "zz"
  refine ⟨Dc, acc, rfl, .inl ⟨sq_of ga, fun q6 hq6 => ?_⟩⟩
  have e8 := Ex.new (o := .tup acc) hq6
  walk_at "zz"
  refine ⟨szl (by simp), fun p7 hp7 => ?_⟩
  walk_at "zz"
  have e9 := e8.trans (Ex.new (o := .lst []) hp7)
  have u9 : But [d] H6 (upd (upd H7 q6 (.tup acc)) p7 (.lst [])) := u7.trans (But.ex e9)
  have h9 := h7.ex e9
  have np7 : H6 p7 = none := (u7.trans (But.ex e8)).fresh hp7 ((h7.ex e8).ne hp7)
  have p7d : p7 ∉ [d] := hD6.ne np7
  refine ⟨_, .ref (A 4), rfl, dgK (u9 _ _ (nd wd (by simp [adr])) hW6.d) rfl, ?_⟩
  refine z_FL (sq_of (u9 _ _ (nAd 4 (by decide)) gs4)) (fun i σ' H8 => ∃ (y8 y9 y10 : Option V) (ac : List V) (k8 : Nat), σ' = [some (.ref a), some (.ref d), some (.ref l), some (.ref wd), some (.ref (A 0)), y5, some (.ref q6), some (.ref p7), y8, y9, y10, none, none, none, none, none, none] ∧ H8 p7 = some (.lst ac) ∧ ac.length = i ∧ Dr K H8 d a ns k8 ∧ k8 ≤ 3010 + 10 * i ∧ But [d] H6 H8) ?_ ?_ ?_ ?_
  · exact ⟨none, none, none, [], k7, rfl, upd_same, rfl, h9, by omega, u9⟩
  · rintro i σ' H8 _ ⟨_, _, _, _, _, _, _, _, _, _, u8⟩
    exact sq_of (u8 _ _ (nAd 4 (by decide)) gs4)
  · rintro i x σ' H8 hi ex ⟨y8, y9, y10, ac, k8, rfl, g8, la8, h8, hk8, u8⟩
    obtain ⟨tt, et, ht⟩ := its_at hxs4 (i := i) (by rw [List.length_map]; omega)
    rw [ex] at et
    cases et
    rw [List.getElem_map] at ht
    have hii : i < W.mems.length := by omega
    walk_at "zz"
    refine nx H8 k8 _ h8 (by omega) u8 fun c H9 c0 c1 h9 u9 v9 => ?_
    walk_at "zz"
    refine z_lenL (sq_of (u9 _ _ (nAd 0 (by decide)) gr)) ?_
    have rpos : 0 < rs.length := by
      obtain ⟨i, hi, _⟩ := hg6.one
      omega
    walk_at "zz"
    refine z_ixT (st_of (keepT u9 ht)) (show atI _ ((1 : Nat) : Int) = some (vi (W.mems[i]'hii).2.1) from atI_nat rfl) ?_
    walk_at "zz"
    refine nx H9 (k8 + 1) _ h9 (by omega) u9 fun c2 H10 c20 c21 h10 u10 v10 => ?_
    walk_at "zz"
    refine ofw _ c2 H10 _ u10 ⟨c20, c21⟩ (hg6.wide _ (hw.mems.2 _ (List.getElem_mem hii)).2.1) fun b H11 e11 => ?_
    walk_at "zz"
    have g11 := e11 _ _ (v10 _ _ p7d (v9 _ _ p7d g8))
    refine z_tyl (sq_of g11) ?_
    walk_at "zz"
    refine nx H11 (k8 + 2) _ (h10.ex e11) (by omega) (u10.trans (But.ex e11)) fun c3 H12 c30 c31 h12 u12 v12 => ?_
    walk_at "zz"
    refine ofw 1 c3 H12 _ u12 ⟨c30, c31⟩ hg6.one fun b2 H13 e13 => ?_
    walk_at "zz"
    refine ⟨szl (by simp), fun t ht' => ?_⟩
    have e14 := Ex.new (o := .tup [.int (c % (xr.length : Int)), vi b, vi b2]) ht'
    walk_at "zz"
    refine ⟨tt, t, _, [.int (c % (xr.length : Int)), vi b, vi b2], rfl, rfl, st_of (e14 _ _ (e13 _ _ (keepT u12 ht))), st_of upd_same, szl (by simp), fun h => (by cases h), fun _ h => (by cases h), fun _ _ t3 ht3 => ?_⟩
    have e15 := Ex.new (o := .tup ([.str (W.mems[i]'hii).1, vi (W.mems[i]'hii).2.1, vi (W.mems[i]'hii).2.2] ++ [.int (c % (xr.length : Int)), vi b, vi b2])) ht3
    have e135 := (e13.trans e14).trans e15
    have g15 := e135 _ _ (v12 _ _ p7d g11)
    walk_at "zz"
    refine z_rapp g15 (szlt (by omega)) ?_
    walk_at "zz"
    refine ⟨_, _, _, ac ++ [.ref t3], k8 + 3, rfl, upd_same, by rw [List.length_append, la8] <;> rfl, ?_, by omega, (u12.trans (But.ex e135)).mut np7⟩
    exact (h12.ex e135).but (But.put (by simp)) (hD6.nd np7) (hD6.ap fun b hb => by rw [List.mem_singleton.mp hb]; exact np7)
  rintro σ' H8 ⟨y8, y9, y10, ac, k8, rfl, g8, la8, h8, hk8, u8⟩
  walk_at "zz"
  refine nx H8 k8 _ h8 (by omega) u8 fun c H9 c0 c1 h9 u9 v9 => ?_
  have g9 := v9 _ _ p7d g8
  have gq9 : H9 q6 = some (.tup acc) → True := fun _ => trivial
  walk_at "zz"
  have rpos : 0 < rs.length := by
    obtain ⟨i, hi, _⟩ := hg6.one
    omega
  refine z_CR1w (by omega) (fun Dc i H10 => ∃ (ac : List V), H10 Dc = some (.lst ac) ∧ ac.length = i ∧ Ex H9 H10) (fun Dc hDc => ⟨[], upd_same, rfl, Ex.new hDc⟩) (fun _ => rfl) (fun Dc i H10 hDc hi hP => ?_) (fun Dc H10 hDc hP => ?_)
  · obtain ⟨ao, go, lo, eo⟩ := hP
    have hi3 : i < 3 := by omega
    walk_at "zz"
    obtain ⟨v, hv, hm⟩ := at_some (l := zs.map V.str) (i := 12 + (i : Int)) (by omega) (by rw [List.length_map, hz]; omega)
    have gl9 := u9 _ _ (fun z => ld (List.mem_singleton.mp z)) gl6
    refine z_ixL (sq_of (eo _ _ gl9)) hv ?_
    walk_at "zz"
    have gr9 := u9 _ _ (nAd 0 (by decide)) gr
    refine z_lenL (sq_of (eo _ _ gr9)) ?_
    walk_at "zz"
    refine z_lenL (sq_of (eo _ _ gr9)) ?_
    walk_at "zz"
    refine ⟨szl (by simp), fun t ht => ?_⟩
    refine ⟨ao, Ex.new ht _ _ go, szlt (by omega), ao ++ [.ref t], upd_same, by rw [List.length_append, lo] <;> rfl, ?_⟩
    exact Ex.mut (eo.trans (Ex.new ht)) hDc
  obtain ⟨ao, go, lo, eo⟩ := hP
  have u10 : But [d] H6 H10 := u9.trans (But.ex eo)
  walk_at "zz"
  refine ⟨_, .ref (A 3), rfl, dgK (u10 _ _ (nd wd (by simp [adr])) hW6.d) rfl, ?_⟩
  refine z_CL (sq_of (u10 _ _ (nAd 3 (by decide)) gs3)) (by have := hw.tabs.1; omega) (fun _ => true) (fun i => .ref ((W.tabs.map fun q => q.2.1)[i]?.getD 0)) (fun _ => rfl) (fun i x H11 hi ex e => fun H12 e12 Q' q' => q' _ (Ex.refl _)) (fun i x H11 hi ex e _ => fun H12 e12 Q' q' => ?_) (fun Dt H11 hDt e11 gt => ?_)
  · obtain ⟨tt, et, ht⟩ := its_at hxs3 (i := i) (by rw [List.length_map]; omega)
    rw [ex] at et
    cases et
    rw [List.getElem_map] at ht
    have hii : i < W.tabs.length := by omega
    walk_at "zz"
    refine z_ixT (st_of ((e.trans e12) _ _ (keepT u10 ht))) (show atI _ ((1 : Nat) : Int) = some (.ref (W.tabs[i]'hii).2.1) from atI_nat rfl) ?_
    have q2 := q' H12 (Ex.refl _)
    rw [List.getElem?_map, List.getElem?_eq_getElem hii] at q2
    exact q2
  rw [given_all] at gt
  have egt : (List.range xs3.length).map (fun i => V.ref ((W.tabs.map fun q => q.2.1)[i]?.getD 0)) = W.tabs.map fun q => .ref q.2.1 := by
    rw [ls3]
    refine List.ext_getElem (by simp) fun i h1 h2 => ?_
    simp at h1
    simp [h1]
  rw [egt] at gt
  walk_at "zz"
  refine ⟨Dt, _, rfl, .inl ⟨sq_of gt, fun q13 hq13 => ?_⟩⟩
  have u11 := u10.trans (But.ex (e11.trans (Ex.new (o := .tup (W.tabs.map fun q => .ref q.2.1)) hq13)))
  have gq13 : upd H11 q13 (.tup (W.tabs.map fun q => .ref q.2.1)) q13 = some (.tup (W.tabs.map fun q => .ref q.2.1)) := upd_same
  have gDc : upd H11 q13 (.tup (W.tabs.map fun q => .ref q.2.1)) Dc = some (.lst ao) := Ex.new hq13 _ _ (e11 _ _ go)
  have gp7 : upd H11 q13 (.tup (W.tabs.map fun q => .ref q.2.1)) p7 = some (.lst ac) := Ex.new hq13 _ _ (e11 _ _ (eo _ _ g9))
  generalize upd H11 q13 (.tup (W.tabs.map fun q => .ref q.2.1)) = HA at u11 gq13 gDc gp7 ⊢
  walk_at "zz"
  refine ⟨_, .ref (A 1), rfl, dgK (u11 _ _ (nd wd (by simp [adr])) hW6.d) rfl, ?_⟩
  walk_at "zz"
  refine ⟨A 1, _, rfl, .inl ⟨sq_of (u11 _ _ (nAd 1 (by decide)) gs1), fun o1 ho1 => ?_⟩⟩
  have x1 := Ex.new (o := .tup xs1) ho1
  walk_at "zz"
  refine ⟨A 0, _, rfl, .inl ⟨sq_of (x1 _ _ (u11 _ _ (nAd 0 (by decide)) gr)), fun o2 ho2 => ?_⟩⟩
  have x2 := Ex.new (o := .tup xr) ho2
  walk_at "zz"
  refine ⟨Dc, _, rfl, .inl ⟨sq_of (x2 _ _ (x1 _ _ gDc)), fun o3 ho3 => ?_⟩⟩
  have x3 := Ex.new (o := .tup ao) ho3
  walk_at "zz"
  refine ⟨p7, _, rfl, .inl ⟨sq_of (x3 _ _ (x2 _ _ (x1 _ _ gp7))), fun o4 ho4 => ?_⟩⟩
  have x4 := Ex.new (o := .tup ac) ho4
  walk_at "zz"
  refine ⟨szl (by simp), fun np hnp => ?_⟩
  have x5 := Ex.new (o := .tup [.ref o1, .ref o2, .ref o3, .ref q6, .ref q13, .ref o4]) hnp
  have xa := (((x1.trans x2).trans x3).trans x4).trans x5
  refine q _ np W rs (ex_but eH6 (u11.trans (But.ex xa)) fun b hb => by rw [List.mem_singleton.mp hb]; exact hd) ⟨.ref o1, .ref o3, .ref q6, .ref o4, o2, q13, xr, upd_same, ?_, ?_, ?_, ?_⟩ hg6 hw (by omega)
  · exact ((x3.trans x4).trans x5) _ _ upd_same
  · exact its_keep (fun t y g => xa _ _ (keepT u11 g)) hxr
  · exact xa _ _ gq13
  · exact fun p hp => xa _ _ (keepT u11 (hW6.t p hp))
theorem pow_cast (n : Nat) : ((2 : Int) ^ n) = ((2 ^ n : Nat) : Int) := by push_cast <;> rfl
theorem band_nat (x y : Nat) : Builtin.bitAnd (x : Int) (y : Int) = ((x &&& y : Nat) : Int) := rfl
theorem bor_nat (x y : Nat) : Builtin.bitOr (x : Int) (y : Int) = ((x ||| y : Nat) : Int) := bitOr_nn (Int.natCast_nonneg x) (Int.natCast_nonneg y)
theorem and_or (x y : Nat) : x + y = (x ||| y) + (x &&& y) := by
  induction x using Nat.strongRecOn generalizing y with
  | ind x ih =>
    by_cases h0 : x = 0
    · subst h0
      rw [Nat.zero_or, Nat.zero_and]
      omega
    · have i1 := ih (x / 2) (by omega) (y / 2)
      have a1 := and2 x y
      have a2 := or2 x y
      have d1 : (x &&& y) / 2 = x / 2 &&& y / 2 := Nat.and_div_two
      have d2 : (x ||| y) / 2 = x / 2 ||| y / 2 := Nat.or_div_two
      generalize x &&& y = A at *
      generalize x ||| y = B at *
      generalize x / 2 &&& y / 2 = A2 at *
      generalize x / 2 ||| y / 2 = B2 at *
      have hx := Nat.mod_two_eq_zero_or_one x
      have hy := Nat.mod_two_eq_zero_or_one y
      rcases hx with hx | hx <;> rcases hy with hy | hy <;> rw [hx, hy] at a1 a2 <;> simp at a1 a2 <;> omega
theorem xor_or (x y : Nat) : (x ^^^ y) + (x &&& y) = x ||| y := by
  induction x using Nat.strongRecOn generalizing y with
  | ind x ih =>
    by_cases h0 : x = 0
    · subst h0
      rw [Nat.zero_or, Nat.zero_and, Nat.zero_xor] <;> rfl
    · have i1 := ih (x / 2) (by omega) (y / 2)
      have a1 := and2 x y
      have a2 := or2 x y
      have a3 := xor2 x y
      have d1 : (x &&& y) / 2 = x / 2 &&& y / 2 := Nat.and_div_two
      have d2 : (x ||| y) / 2 = x / 2 ||| y / 2 := Nat.or_div_two
      have d3 : (x ^^^ y) / 2 = x / 2 ^^^ y / 2 := Nat.xor_div_two
      generalize x &&& y = A at *
      generalize x ||| y = B at *
      generalize x ^^^ y = C at *
      generalize x / 2 &&& y / 2 = A2 at *
      generalize x / 2 ||| y / 2 = B2 at *
      generalize x / 2 ^^^ y / 2 = C2 at *
      have hx := Nat.mod_two_eq_zero_or_one x
      have hy := Nat.mod_two_eq_zero_or_one y
      rcases hx with hx | hx <;> rcases hy with hy | hy <;> rw [hx, hy] at a1 a2 a3 <;> simp at a1 a2 a3 <;> omega
theorem bxor_nat (x y : Nat) : Builtin.bitXor (x : Int) (y : Int) = ((x ^^^ y : Nat) : Int) := by
  show Builtin.bitOr (x : Int) (y : Int) - Builtin.bitAnd (x : Int) (y : Int) = _
  rw [bor_nat, band_nat]
  have := xor_or x y
  omega
theorem band_mask (i : Int) (k : Nat) : Builtin.bitAnd i ((2 ^ k - 1 : Nat) : Int) = i % 2 ^ k := by
  have e : ((2 ^ k - 1 : Nat) : Int) = 2 ^ k - 1 := by
    rw [pow_cast]
    have := Nat.two_pow_pos k
    omega
  rw [e]
  exact PySem.W.kbt_mask i k
theorem vr_top_of (vs H Q E) (h : sp_top_of vs H Q E) : rd_top_of { nx := fun _ H' => Q .non H', rt := Q } (start ["width"] vs) H := by
  obtain ⟨n, rfl, hn, q⟩ := h
  unfold rd_top_of
  walk_at "zz"
  refine z_i (shl_ok (i := 1) (j := n) (n := 1) (by decide) (by omega)) ?_
  walk_at "zz"
  have e : (1 : Int) * 2 ^ (n : Int).toNat - 1 = ((2 ^ n - 1 : Nat) : Int) := by
    rw [Int.toNat_natCast, Int.one_mul, pow_cast]
    have := Nat.two_pow_pos n
    omega
  rw [e]
  exact q.go (Ex.refl H)
theorem vr_turned (vs H Q E) (h : sp_turned vs H Q E) : rd_turned { nx := fun _ H' => Q .non H', rt := Q } (start ["word", "width"] vs) H := by
  obtain ⟨n, x, rfl, hn, hx, q⟩ := h
  unfold rd_turned
  walk_at "zz"
  refine ⟨n, rfl, hn, fun H' e => ?_⟩
  walk_at "zz"
  have p2 := Nat.two_pow_pos n
  rw [bxor_nat]
  have a1 := xor_or x (2 ^ n - 1)
  have a2 := and_or x (2 ^ n - 1)
  have a3 : x &&& (2 ^ n - 1) = x := by rw [Nat.and_two_pow_sub_one_eq_mod, Nat.mod_eq_of_lt hx]
  have a4 : x ^^^ (2 ^ n - 1) = 2 ^ n - 1 - x := by omega
  rw [a4]
  exact q.go e
theorem vr_cut_word (vs H Q E) (h : sp_cut_word vs H Q E) : rd_cut_word { nx := fun _ H' => Q .non H', rt := Q } (start ["word", "low", "many"] vs) H := by
  obtain ⟨x, low, many, rfl, hl, hm, q⟩ := h
  unfold rd_cut_word
  walk_at "zz"
  refine z_i (show (0 : Int) ≤ (low : Int) by omega) ?_
  walk_at "zz"
  refine ⟨many, rfl, hm, fun H' e => ?_⟩
  walk_at "zz"
  rw [band_mask, Int.toNat_natCast, pow_cast, pow_cast, ← Int.natCast_ediv, ← Int.natCast_emod]
  exact q.go e
theorem vr_joined_words (vs H Q E) (h : sp_joined_words vs H Q E) : rd_joined_words { nx := fun _ H' => Q .non H', rt := Q } (start ["high", "low", "many"] vs) H := by
  obtain ⟨h, l, n, rfl, hn, hl, hh, q⟩ := h
  unfold rd_joined_words
  walk_at "zz"
  refine z_i (shl_ok (i := (h : Int)) (j := n) (n := 64) (by rw [Int.natAbs_natCast]; exact hh) (by omega)) ?_
  walk_at "zz"
  rw [Int.toNat_natCast, or_low (Int.natCast_nonneg h) (Int.natCast_nonneg l) (by rw [pow_cast]; omega), pow_cast, ← Int.natCast_mul, ← Int.natCast_add]
  rw [show h * 2 ^ n + l = l + 2 ^ n * h by rw [Nat.mul_comm, Nat.add_comm]]
  exact q.go (Ex.refl H)
theorem vr_two_words (vs H Q E) (h : sp_two_words vs H Q E) : rd_two_words { nx := fun _ H' => Q .non H', rt := Q } (start ["sign", "one", "other", "width"] vs) H := by
  obtain ⟨s, n, x, y, rfl, hs, hn, q⟩ := h
  unfold rd_two_words
  have ne : ∀ {a b : Str}, a ≠ b → ∀ {P : Prop}, decide (V.str a = V.str b) = true → P := fun h P hd => absurd (V.str.inj (of_decide_eq_true hd)) h
  match s, hs with
  | 0, _ =>
    walk_at "zz"
    refine ite_b (fun _ => ?_) (fun h => absurd h (by decide))
    walk_at "zz"
    rw [band_nat]
    exact q.go (Ex.refl H)
  | 1, _ =>
    walk_at "zz"
    refine ite_b (fun h => absurd h (by decide)) (fun _ => ?_)
    walk_at "zz"
    refine ite_b (fun _ => ?_) (fun h => absurd h (by decide))
    walk_at "zz"
    rw [bor_nat]
    exact q.go (Ex.refl H)
  | 2, _ =>
    walk_at "zz"
    refine ite_b (fun h => absurd h (by decide)) (fun _ => ?_)
    walk_at "zz"
    refine ite_b (fun h => absurd h (by decide)) (fun _ => ?_)
    walk_at "zz"
    refine ite_b (fun _ => ?_) (fun h => absurd h (by decide))
    walk_at "zz"
    rw [bxor_nat]
    exact q.go (Ex.refl H)
  | 3, _ =>
    walk_at "zz"
    refine ite_b (fun h => absurd h (by decide)) (fun _ => ?_)
    walk_at "zz"
    refine ite_b (fun h => absurd h (by decide)) (fun _ => ?_)
    walk_at "zz"
    refine ite_b (fun h => absurd h (by decide)) (fun _ => ?_)
    walk_at "zz"
    refine ite_b (fun _ => ?_) (fun h => absurd h (by decide))
    walk_at "zz"
    refine ⟨n, rfl, hn, fun H' e => ?_⟩
    walk_at "zz"
    rw [band_mask]
    exact q.go e
  | 4, _ =>
    walk_at "zz"
    refine ite_b (fun h => absurd h (by decide)) (fun _ => ?_)
    walk_at "zz"
    refine ite_b (fun h => absurd h (by decide)) (fun _ => ?_)
    walk_at "zz"
    refine ite_b (fun h => absurd h (by decide)) (fun _ => ?_)
    walk_at "zz"
    refine ite_b (fun h => absurd h (by decide)) (fun _ => ?_)
    walk_at "zz"
    refine ite_b (fun _ => ?_) (fun h => absurd h (by decide))
    walk_at "zz"
    refine ⟨n, rfl, hn, fun H' e => ?_⟩
    walk_at "zz"
    rw [band_mask]
    exact q.go e
  | 5, _ =>
    walk_at "zz"
    refine ite_b (fun h => absurd h (by decide)) (fun _ => ?_)
    walk_at "zz"
    refine ite_b (fun h => absurd h (by decide)) (fun _ => ?_)
    walk_at "zz"
    refine ite_b (fun h => absurd h (by decide)) (fun _ => ?_)
    walk_at "zz"
    refine ite_b (fun h => absurd h (by decide)) (fun _ => ?_)
    walk_at "zz"
    refine ite_b (fun h => absurd h (by decide)) (fun _ => ?_)
    walk_at "zz"
    refine ite_b (fun _ => ?_) (fun h => absurd h (by decide))
    walk_at "zz"
    have q' : RetV (.int (if x = y then 1 else 0)) H Q := q
    refine ite_b (fun h => ?_) (fun h => ?_)
    · have e : x = y := by
        have h6 := of_decide_eq_true h
        injection h6 with h7
        omega
      walk_at "zz"
      rw [if_pos e] at q'
      exact q'.go (Ex.refl H)
    · have e : ¬ x = y := fun z => of_decide_eq_false h (by rw [z])
      walk_at "zz"
      rw [if_neg e] at q'
      exact q'.go (Ex.refl H)
  | 6, _ =>
    walk_at "zz"
    refine ite_b (fun h => absurd h (by decide)) (fun _ => ?_)
    walk_at "zz"
    refine ite_b (fun h => absurd h (by decide)) (fun _ => ?_)
    walk_at "zz"
    refine ite_b (fun h => absurd h (by decide)) (fun _ => ?_)
    walk_at "zz"
    refine ite_b (fun h => absurd h (by decide)) (fun _ => ?_)
    walk_at "zz"
    refine ite_b (fun h => absurd h (by decide)) (fun _ => ?_)
    walk_at "zz"
    refine ite_b (fun h => absurd h (by decide)) (fun _ => ?_)
    walk_at "zz"
    have q' : RetV (.int (if x < y then 1 else 0)) H Q := q
    refine ite_b (fun h => ?_) (fun h => ?_)
    · have e : x < y := by
        have h6 := of_decide_eq_true h
        omega
      walk_at "zz"
      rw [if_pos e] at q'
      exact q'.go (Ex.refl H)
    · have e : ¬ x < y := fun z => of_decide_eq_false h (by omega)
      walk_at "zz"
      rw [if_neg e] at q'
      exact q'.go (Ex.refl H)
theorem natAt_some {l : List Nat} {i : Nat} (h : i < l.length) : (l.map vi)[i]? = some (vi (natAt l i)) := by
  unfold natAt
  rw [List.getElem?_map, List.getElem?_eq_getElem h] <;> rfl
theorem vr_cell_at (vs H Q E) (h : sp_cell_at K vs H Q E) : (rd_cell_at K) { nx := fun _ H' => Q .non H', rt := Q } (start ["cells", "at"] vs) H := by
  obtain ⟨a, b, l, i, rfl, ha, q⟩ := h
  unfold rd_cell_at
  walk_at "zz"
  refine z_lenSq ha ?_
  rw [List.length_map]
  walk_at "zz"
  refine ite_b (fun h => ?_) (fun h => ?_)
  · have hi : i < l.length := by
      have := of_decide_eq_true h
      omega
    walk_at "zz"
    exact z_ixAs ha (atI_nat (natAt_some hi)) (q.go (Ex.refl H))
  · have hi : ¬ i < l.length := by
      have := of_decide_eq_false h
      omega
    walk_at "zz"
    have e : natAt l i = 0 := by
      unfold natAt
      rw [List.getElem?_eq_none (by omega)] <;> rfl
    rw [e] at q
    exact q.go (Ex.refl H)
theorem at_len (r : Rw) : r.at_.length = r.asks.length := by cases r <;> rfl
theorem at_asks (r : Rw) (i k : Nat) (h : r.at_[i]? = some k) : r.vs[k]? = some (vi (natAt r.asks i)) ∧ k < r.vs.length := by
  cases r <;> rcases i with _ | _ | _ | i <;> simp [Rw.at_] at h <;> subst h <;> exact ⟨rfl, by simp [Rw.vs, Rw.tl]⟩
theorem at_le (r : Rw) : r.at_.length ≤ 3 := by cases r <;> simp [Rw.at_]
theorem kind_tab (r : Rw) : (r.kind, TV.tup (r.at_.map vi)) ∈ tab_ASKED_AT := by
  unfold tab_ASKED_AT
  cases r <;> (repeat first | exact List.Mem.head _ | apply List.Mem.tail)
theorem vr_asked_by (t_ASKED_AT : TabK K w (He.ga K "ASKED_AT") tab_ASKED_AT) (vs H Q E) (h : sp_asked_by K vs H Q E) : (rd_asked_by K w) { nx := fun _ H' => Q .non H', rt := Q } (start ["row", "at"] vs) H := by
  obtain ⟨t, r, rfl, ht, q⟩ := h
  obtain ⟨b, kd, hb⟩ := t_ASKED_AT.get _ _ (kind_tab r)
  unfold rd_asked_by
  walk_at "zz"
  refine z_ixT ht (show atI _ ((0 : Nat) : Int) = _ from atI_nat (vs0 _)) ?_
  refine z_ixK kd ?_
  refine z_CT (hb H) (by rw [List.length_map]; exact Nat.le_trans (at_le r) (by decide)) (fun _ => true) (fun i => vi (natAt r.asks i)) (fun _ => rfl) (fun i x H' hi ex e => fun H1 e1 Q' q' => q' _ (Ex.refl _)) (fun i x H' hi ex e _ => fun H1 e1 Q' q' => ?_) (fun p H1 hp e1 h1 => ?_)
  · rw [List.getElem?_map] at ex
    obtain ⟨k, hk, rfl⟩ := Option.map_eq_some_iff.mp ex
    walk_at "zz"
    exact z_ixT (ex_t (e.trans e1) ht) (atI_nat (at_asks r i k hk).1) (q' _ (Ex.refl _))
  · rw [given_all] at h1
    have e2 : (List.range (r.at_.map vi).length).map (fun i => vi (natAt r.asks i)) = r.asks.map vi := by
      rw [List.length_map, at_len]
      refine List.ext_getElem (by simp) fun i h1 h2 => ?_
      simp at h1
      simp [natAt, h1]
    rw [e2] at h1
    exact q p H1 hp e1 h1
theorem vr_L_asked (vs H Q E) (h : sp_L_asked K vs H Q E) : (rd_L_asked K) { nx := fun _ H' => Q .non H', rt := Q } (start ["_law_row", "_law_places"] vs) H := by
  obtain ⟨t, r, rfl, ht, q⟩ := h
  unfold rd_L_asked
  walk_at "zz"
  refine z_disp fun p hp => ?_
  have e0 := Ex.new (o := .dK []) hp
  have gp0 : upd H p (.dK []) p = some (.dK []) := upd_same
  generalize upd H p (.dK []) = Ha0 at e0 gp0 ⊢
  refine z_pairs ?_
  walk_at "zz"
  refine ⟨szl (by simp), fun l1 h1 => ?_⟩
  have e1 := Ex.new (o := .lst [.int 2]) h1
  have g1 : upd Ha0 l1 (.lst [.int 2]) l1 = some (.lst [.int 2]) := upd_same
  generalize upd Ha0 l1 (.lst [.int 2]) = Ha1 at e1 g1 ⊢
  refine z_pairs ?_
  walk_at "zz"
  refine ⟨szl (by simp), fun l2 h2 => ?_⟩
  have e2 := Ex.new (o := .lst [.int 3, .int 4]) h2
  have g2 : upd Ha1 l2 (.lst [.int 3, .int 4]) l2 = some (.lst [.int 3, .int 4]) := upd_same
  generalize upd Ha1 l2 (.lst [.int 3, .int 4]) = Ha2 at e2 g2 ⊢
  refine z_pairs ?_
  walk_at "zz"
  refine ⟨szl (by simp), fun l3 h3 => ?_⟩
  have e3 := Ex.new (o := .lst [.int 2, .int 3, .int 4]) h3
  have g3 : upd Ha2 l3 (.lst [.int 2, .int 3, .int 4]) l3 = some (.lst [.int 2, .int 3, .int 4]) := upd_same
  generalize upd Ha2 l3 (.lst [.int 2, .int 3, .int 4]) = Ha3 at e3 g3 ⊢
  refine z_pairs ?_
  walk_at "zz"
  refine ⟨szl (by simp), fun l4 h4 => ?_⟩
  have e4 := Ex.new (o := .lst [.int 2]) h4
  have g4 : upd Ha3 l4 (.lst [.int 2]) l4 = some (.lst [.int 2]) := upd_same
  generalize upd Ha3 l4 (.lst [.int 2]) = Ha4 at e4 g4 ⊢
  refine z_pairs ?_
  walk_at "zz"
  refine ⟨szl (by simp), fun l5 h5 => ?_⟩
  have e5 := Ex.new (o := .lst [.int 2, .int 3]) h5
  have g5 : upd Ha4 l5 (.lst [.int 2, .int 3]) l5 = some (.lst [.int 2, .int 3]) := upd_same
  generalize upd Ha4 l5 (.lst [.int 2, .int 3]) = Ha5 at e5 g5 ⊢
  refine z_pairs ?_
  walk_at "zz"
  refine ⟨szl (by simp), fun l6 h6 => ?_⟩
  have e6 := Ex.new (o := .lst [.int 2]) h6
  have g6 : upd Ha5 l6 (.lst [.int 2]) l6 = some (.lst [.int 2]) := upd_same
  generalize upd Ha5 l6 (.lst [.int 2]) = Ha6 at e6 g6 ⊢
  refine z_pairs0 ⟨?_, [(Sum.inr "not", .ref l1), (Sum.inr "two", .ref l2), (Sum.inr "pick", .ref l3), (Sum.inr "cut", .ref l4), (Sum.inr "join", .ref l5), (Sum.inr "fill", .ref l6)], rfl, Nat.le_of_ble_eq_true rfl, ?_⟩
  · exact e6 _ _ (e5 _ _ (e4 _ _ (e3 _ _ (e2 _ _ (e1 _ _ gp0)))))
  have eM : mergeK [] [(Sum.inr "not", .ref l1), (Sum.inr "two", .ref l2), (Sum.inr "pick", .ref l3), (Sum.inr "cut", .ref l4), (Sum.inr "join", .ref l5), (Sum.inr "fill", .ref l6)] = ([(Sum.inr "not", .ref l1), (Sum.inr "two", .ref l2), (Sum.inr "pick", .ref l3), (Sum.inr "cut", .ref l4), (Sum.inr "join", .ref l5), (Sum.inr "fill", .ref l6)] : List (Key × V)) := rfl
  rw [eM]
  have x6 : Ex Ha0 Ha6 := ((((e1.trans e2).trans e3).trans e4).trans e5).trans e6
  have f1 := e6 _ _ (e5 _ _ (e4 _ _ (e3 _ _ (e2 _ _ g1))))
  have f2 := e6 _ _ (e5 _ _ (e4 _ _ (e3 _ _ g2)))
  have f3 := e6 _ _ (e5 _ _ (e4 _ _ g3))
  have f4 := e6 _ _ (e5 _ _ g4)
  have f5 := e6 _ _ g5
  have n1 : H l1 = none := fresh_back e0 h1
  have n2 : H l2 = none := fresh_back (e0.trans e1) h2
  have n3 : H l3 = none := fresh_back ((e0.trans e1).trans e2) h3
  have n4 : H l4 = none := fresh_back (((e0.trans e1).trans e2).trans e3) h4
  have n5 : H l5 = none := fresh_back ((((e0.trans e1).trans e2).trans e3).trans e4) h5
  have n6 : H l6 = none := fresh_back (((((e0.trans e1).trans e2).trans e3).trans e4).trans e5) h6
  have gp6 := x6 _ _ gp0
  have np : ∀ {b : Addr} {l : List V}, Ha6 b = some (.lst l) → b ≠ p := fun g z => by
    rw [z, gp6] at g
    cases g
  have eb : But [p] Ha6 (upd Ha6 p (.dK [(Sum.inr "not", .ref l1), (Sum.inr "two", .ref l2), (Sum.inr "pick", .ref l3), (Sum.inr "cut", .ref l4), (Sum.inr "join", .ref l5), (Sum.inr "fill", .ref l6)])) := But.put (by simp)
  have gb : upd Ha6 p (.dK [(Sum.inr "not", .ref l1), (Sum.inr "two", .ref l2), (Sum.inr "pick", .ref l3), (Sum.inr "cut", .ref l4), (Sum.inr "join", .ref l5), (Sum.inr "fill", .ref l6)]) p = _ := upd_same
  generalize upd Ha6 p (.dK [(Sum.inr "not", .ref l1), (Sum.inr "two", .ref l2), (Sum.inr "pick", .ref l3), (Sum.inr "cut", .ref l4), (Sum.inr "join", .ref l5), (Sum.inr "fill", .ref l6)]) = Hb at eb gb ⊢
  walk_at "zz"
  refine ⟨.inr (.inr (.inl ⟨rfl, .inl ⟨_, gb⟩⟩)), ?_⟩
  refine z_disp fun p2 hp2 => ?_
  have d0 := Ex.new (o := .dK []) hp2
  have dp0 : upd Hb p2 (.dK []) p2 = some (.dK []) := upd_same
  generalize upd Hb p2 (.dK []) = Hd0 at d0 dp0 ⊢
  refine z_pairs ?_
  walk_at "zz"
  refine ⟨szl (by simp), fun l7 h7 => ?_⟩
  have d1 := Ex.new (o := .lst [.int 3]) h7
  have g7 : upd Hd0 l7 (.lst [.int 3]) l7 = some (.lst [.int 3]) := upd_same
  generalize upd Hd0 l7 (.lst [.int 3]) = Hd1 at d1 g7 ⊢
  refine z_pairs ?_
  walk_at "zz"
  refine ⟨szl (by simp), fun l8 h8 => ?_⟩
  have d2 := Ex.new (o := .lst [.int 3]) h8
  have g8 : upd Hd1 l8 (.lst [.int 3]) l8 = some (.lst [.int 3]) := upd_same
  generalize upd Hd1 l8 (.lst [.int 3]) = Hd2 at d2 g8 ⊢
  refine z_pairs0 ⟨?_, [(Sum.inr "table", .ref l7), (Sum.inr "memory", .ref l8)], rfl, Nat.le_of_ble_eq_true rfl, ?_⟩
  · exact d2 _ _ (d1 _ _ dp0)
  have eM2 : mergeK [] [(Sum.inr "table", .ref l7), (Sum.inr "memory", .ref l8)] = ([(Sum.inr "table", .ref l7), (Sum.inr "memory", .ref l8)] : List (Key × V)) := rfl
  rw [eM2]
  have d3 : But [p2] Hd2 (upd Hd2 p2 (.dK [(Sum.inr "table", .ref l7), (Sum.inr "memory", .ref l8)])) := But.put (by simp)
  have gq : upd Hd2 p2 (.dK [(Sum.inr "table", .ref l7), (Sum.inr "memory", .ref l8)]) p2 = _ := upd_same
  generalize upd Hd2 p2 (.dK [(Sum.inr "table", .ref l7), (Sum.inr "memory", .ref l8)]) = He at d3 gq ⊢
  have npp : p ∉ [p2] := fun z => by
    rw [List.mem_singleton.mp z, hp2] at gb
    cases gb
  have gbe : He p = _ := d3 _ _ npp (d2 _ _ (d1 _ _ (d0 _ _ gb)))
  walk_at "zz"
  refine ⟨p, p2, _, _, rfl, rfl, gbe, .inl gq, fun z => npp (by rw [z]; simp), Nat.le_trans (show _ ≤ 8 from Nat.le_of_ble_eq_true rfl) (by decide), ?_⟩
  have eM3 : mergeK [(Sum.inr "not", .ref l1), (Sum.inr "two", .ref l2), (Sum.inr "pick", .ref l3), (Sum.inr "cut", .ref l4), (Sum.inr "join", .ref l5), (Sum.inr "fill", .ref l6)] [(Sum.inr "table", .ref l7), (Sum.inr "memory", .ref l8)] = ([(Sum.inr "not", .ref l1), (Sum.inr "two", .ref l2), (Sum.inr "pick", .ref l3), (Sum.inr "cut", .ref l4), (Sum.inr "join", .ref l5), (Sum.inr "fill", .ref l6), (Sum.inr "table", .ref l7), (Sum.inr "memory", .ref l8)] : List (Key × V)) := rfl
  rw [eM3]
  have d4 : But [p] He (upd He p (.dK [(Sum.inr "not", .ref l1), (Sum.inr "two", .ref l2), (Sum.inr "pick", .ref l3), (Sum.inr "cut", .ref l4), (Sum.inr "join", .ref l5), (Sum.inr "fill", .ref l6), (Sum.inr "table", .ref l7), (Sum.inr "memory", .ref l8)])) := But.put (by simp)
  have gz : upd He p (.dK [(Sum.inr "not", .ref l1), (Sum.inr "two", .ref l2), (Sum.inr "pick", .ref l3), (Sum.inr "cut", .ref l4), (Sum.inr "join", .ref l5), (Sum.inr "fill", .ref l6), (Sum.inr "table", .ref l7), (Sum.inr "memory", .ref l8)]) p = _ := upd_same
  generalize upd He p (.dK [(Sum.inr "not", .ref l1), (Sum.inr "two", .ref l2), (Sum.inr "pick", .ref l3), (Sum.inr "cut", .ref l4), (Sum.inr "join", .ref l5), (Sum.inr "fill", .ref l6), (Sum.inr "table", .ref l7), (Sum.inr "memory", .ref l8)]) = Hf at d4 gz ⊢
  have x7 : Ex H Hb := ex_but (e0.trans x6) eb (by simp [hp])
  have x8 : Ex H He := ex_but (x7.trans ((d0.trans d1).trans d2)) d3 (by simp [fresh_back x7 hp2])
  have x9 : Ex H Hf := ex_but x8 d4 (by simp [hp])
  have dp2 := d2 _ _ (d1 _ _ dp0)
  have up2 : ∀ {b : Addr} {l : List V}, Hd2 b = some (.lst l) → Hf b = some (.lst l) := fun {b l} g => by
    have e := d3 b _ (fun z => by rw [List.mem_singleton.mp z, dp2] at g; cases g) g
    exact d4 b _ (fun z => by rw [List.mem_singleton.mp z, gbe] at e; cases e) e
  have up1 : ∀ {b : Addr} {l : List V}, Ha6 b = some (.lst l) → Hf b = some (.lst l) := fun {b l} g =>
    up2 (d2 _ _ (d1 _ _ (d0 _ _ (eb b _ (fun z => np g (List.mem_singleton.mp z)) g))))
  have n7 : H l7 = none := fresh_back (x7.trans d0) h7
  have n8 : H l8 = none := fresh_back ((x7.trans d0).trans d1) h8
  walk_at "zz"
  refine ⟨p, rfl, .inl ⟨_, .inl gz⟩, ?_⟩
  walk_at "zz"
  refine z_ixT (ex_t x9 ht) (show atI _ ((0 : Nat) : Int) = _ from atI_nat (vs0 _)) ?_
  walk_at "zz"
  refine ⟨szl (by simp), fun l9 h9 => ?_⟩
  have xn := Ex.new (o := .lst []) h9
  have g9 : upd Hf l9 (.lst []) l9 = some (.lst []) := upd_same
  generalize upd Hf l9 (.lst []) = Hg at xn g9 ⊢
  have n9 := fresh_back x9 h9
  have xg := x9.trans xn
  refine ⟨_, DGet.k (k := Sum.inr _) (xn _ _ gz), ?_⟩
  cases r
  · exact q l9 Hg n9 xg g9
  · exact q l9 Hg n9 xg g9
  · exact q l9 Hg n9 xg g9
  · exact q l1 Hg n1 xg (xn _ _ (up1 f1))
  · exact q l2 Hg n2 xg (xn _ _ (up1 f2))
  · exact q l3 Hg n3 xg (xn _ _ (up1 f3))
  · exact q l4 Hg n4 xg (xn _ _ (up1 f4))
  · exact q l5 Hg n5 xg (xn _ _ (up1 f5))
  · exact q l6 Hg n6 xg (xn _ _ (up1 g6))
  · exact q l7 Hg n7 xg (xn _ _ (up2 (d2 _ _ g7)))
  · exact q l8 Hg n8 xg (xn _ _ (up2 g8))
theorem fold_len : ∀ (ps : List (Nat × Nat)) (l : List V), (ps.foldl (fun l p => l.set p.1 (vi p.2)) l).length = l.length
  | [], _ => rfl
  | p :: ps, l => by rw [List.foldl_cons, fold_len ps, List.length_set]
theorem take_succ_of {α : Type} {l : List α} {i : Nat} {x : α} (h : l[i]? = some x) : l.take (i + 1) = l.take i ++ [x] := by rw [List.take_succ, h] <;> rfl
theorem vr_led_to (t_ASKED_AT : TabK K w (He.ga K "ASKED_AT") tab_ASKED_AT) (vs H Q E) (h : sp_led_to K vs H Q E) : (rd_led_to K w) { nx := fun _ H' => Q .non H', rt := Q } (start ["row", "numbers", "places", "led", "at", "number"] vs) H := by
  obtain ⟨t, c, b, r, ns, rfl, ht, hc, hl, q⟩ := h
  obtain ⟨pb, kd, hb⟩ := t_ASKED_AT.get _ _ (kind_tab r)
  unfold rd_led_to
  walk_at "zz"
  refine z_ixT ht (show atI _ ((0 : Nat) : Int) = _ from atI_nat (vs0 _)) ?_
  refine z_ixK kd ?_
  walk_at "zz"
  refine ⟨t, r.vs, rfl, .inr ht, fun p hp => ?_⟩
  walk_at "zz"
  have e0 := Ex.new (o := .lst r.vs) hp
  refine z_FZw (b := true) (c := b) (xs := r.at_.map vi) (ys := ns.map vi) (n := r.at_.length) (by simp [hl]) (hb _) (ex_s e0 hc) (fun i σ' H1 => ∃ y4 y5, σ' = [some (.ref t), some (.ref c), some (.ref pb), some (.ref p), y4, y5] ∧ Ex H H1 ∧ H1 p = some (.lst (((List.zip r.at_ ns).take i).foldl (fun l p => l.set p.1 (vi p.2)) r.vs))) ?_ ?_ ?_ ?_
  · exact ⟨none, none, rfl, e0, upd_same⟩
  · rintro i σ' H1 hi ⟨y4, y5, rfl, e1, g1⟩
    exact ⟨hb _, ex_s e1 hc⟩
  · rintro i x y T σ' H1 H2 hi ex ey ⟨y4, y5, rfl, e1, g1⟩ e2 hT rfl
    rw [List.getElem?_map] at ex ey
    obtain ⟨k, hk, rfl⟩ := Option.map_eq_some_iff.mp ex
    obtain ⟨n, hn, rfl⟩ := Option.map_eq_some_iff.mp ey
    have g2 := e2 _ _ g1
    have e12 := e1.trans e2
    have hk2 := (at_asks r i k hk).2
    have hz : (List.zip r.at_ ns)[i]? = some (k, n) := by
      rw [List.getElem?_zip_eq_some]
      exact ⟨hk, hn⟩
    refine z_gtup2 (st_of upd_same) ?_
    walk_at "zz"
    refine ⟨p, _, (k : Int), k, rfl, rfl, g2, ?_, ?_⟩
    · refine Evl.ixN_nat ?_
      rw [fold_len]
      exact hk2
    walk_at "zz"
    refine ⟨_, _, rfl, ex_but e12 (But.put (B := [p]) (by simp)) (by simp [hp]), ?_⟩
    rw [upd_same, take_succ_of hz, List.foldl_append]
    rfl
  · rintro σ' H1 ⟨y4, y5, rfl, e1, g1⟩
    walk_at "zz"
    have e9 : (List.zip r.at_ ns).take r.at_.length = List.zip r.at_ ns := List.take_of_length_le (by rw [List.length_zip]; omega)
    rw [e9] at g1
    refine ⟨p, _, rfl, .inl ⟨sq_of g1, fun T hT => ?_⟩⟩
    exact q T _ (fresh_back e1 hT) (e1.trans (Ex.new hT)) upd_same
local macro_rules | `(tactic| walk_at "ny") => `(tactic| (walk_at "zz"; refine ite_b (fun h => absurd h (by decide)) (fun _ => ?_)))
local macro_rules | `(tactic| walk_at "ye") => `(tactic| (walk_at "zz"; refine ite_b (fun _ => ?_) (fun h => absurd h (by decide)); walk_at "zz"))
theorem asks_lt {W : Wo} {rs : List Rw} {r : Rw} (h : r.ok W rs) : ∀ a ∈ r.asks, a < rs.length := by
  cases r <;> simp [Rw.asks, Rw.ok] at h ⊢ <;> omega
theorem tab_at {W : Wo} {k w : Nat} (h : (W.tabs.map (·.1))[k]? = some w) : ∃ q : Nat × Addr × List Nat, W.tabs[k]? = some q ∧ tabAt W k = q.2.2 := by
  rw [List.getElem?_map] at h
  obtain ⟨q, e, _⟩ := Option.map_eq_some_iff.mp h
  refine ⟨q, e, ?_⟩
  unfold tabAt
  rw [List.getElem?_map, e] <;> rfl
theorem vr_worth_of (vs H Q E) (h : sp_worth_of K vs H Q E) : (rd_worth_of K) { nx := fun _ H' => Q .non H', rt := Q } (start ["row", "words", "rows", "tables", "kind", "width", "asked", "number"] vs) H := by
  obtain ⟨t, c, pr, pt, r, ws, W, rs, xs, rfl, ht, hc, hpr, hxs, hpt, htab, hok, hws, hreck, hlen, q⟩ := h
  unfold rd_worth_of
  walk_at "zz"
  refine z_ixT (st_of ht) (show atI _ ((0 : Nat) : Int) = _ from atI_nat (vs0 _)) ?_
  walk_at "zz"
  refine z_ixT (st_of ht) (show atI _ ((1 : Nat) : Int) = _ from atI_nat (vs1 _)) ?_
  walk_at "zz"
  refine ⟨_, _, rfl, ?_⟩
  walk_at "zz"
  refine ⟨t, r, rfl, st_of ht, fun p1 H1 hp1 e1 g1 => ?_⟩
  refine z_CL (sq_of g1) (by rw [List.length_map, ← at_len]; exact Nat.le_trans (at_le r) (by decide)) (fun _ => true) (fun i => vi (natAt ws (natAt r.asks i))) (fun _ => rfl) (fun i x H5 hi hx e5 => fun H6 e6 Q' q' => q' _ (Ex.refl _)) (fun i x H5 hi hx e5 _ => fun H6 e6 Q' q' => ?_) (fun p3 H5 hp3 e5 h5 => ?_)
  · rw [List.length_map] at hi
    rw [natAt_some hi] at hx
    obtain rfl := Option.some.inj hx
    have hk : natAt r.asks i < ws.length := by
      rw [hws.1]
      refine asks_lt hok _ ?_
      unfold natAt
      rw [List.getElem?_eq_getElem hi]
      exact List.getElem_mem hi
    have x6 := (e1.trans e5).trans e6
    walk_at "zz"
    rcases hc with hc | ⟨kvs, hd, hkv⟩
    · exact z_ixAs (b := false) (ex_l x6 hc) (atI_nat (natAt_some hk)) (q' _ (Ex.refl _))
    · exact z_ixAd (x6 _ _ hd) (hkv _ hk) (q' _ (Ex.refl _))
  have e2 : Evl.given (r.asks.map vi).length (fun _ => true) (fun i => vi (natAt ws (natAt r.asks i))) = r.asks.map fun a => vi (natAt ws a) := by
    rw [given_all, List.length_map]
    refine List.ext_getElem (by simp) fun i h1 h2 => ?_
    simp at h1
    simp [natAt, h1]
  rw [e2] at h5
  have x5 := e1.trans e5
  have gl := sq_of (K := K) h5
  have lw := fun a => hws.2 a
  clear h5 e2
  generalize hk : r.kind = kd
  cases r with
  | num | inn | rst | mem => cases hreck
  | nt w a =>
    obtain rfl : kd = "not" := hk.symm
    walk_at "ye"
    refine z_ixL gl (show atI _ ((0 : Nat) : Int) = _ from rfl) ?_
    walk_at "zz"
    obtain ⟨⟨h1, h2⟩, h3, h4⟩ := hok
    refine ⟨w, natAt ws a, rfl, h2, by have := (lw a h3).1; rwa [h4] at this, fun H6 e6 => ?_⟩
    exact q.go (x5.trans e6)
  | two w s a b =>
    obtain rfl : kd = "two" := hk.symm
    walk_at "ny"
    walk_at "ye"
    refine z_ixT (st_of (x5 _ _ ht)) (show atI _ ((2 : Nat) : Int) = _ from rfl) ?_
    walk_at "zz"
    refine z_ixL gl (show atI _ ((0 : Nat) : Int) = _ from rfl) ?_
    walk_at "zz"
    refine z_ixL gl (show atI _ ((1 : Nat) : Int) = _ from rfl) ?_
    walk_at "zz"
    obtain ⟨⟨h1, h2⟩, h3, h4, h5, h6⟩ := hok
    refine ⟨s, w, natAt ws a, natAt ws b, rfl, h3, h2, fun H6 e6 => ?_⟩
    exact q.go (x5.trans e6)
  | pick w a b c =>
    obtain rfl : kd = "pick" := hk.symm
    walk_at "ny"
    walk_at "ny"
    walk_at "ye"
    refine z_ixL gl (show atI _ ((0 : Nat) : Int) = _ from rfl) ?_
    walk_at "zz"
    have q' : RetV (.int ((if natAt ws a = 1 then natAt ws b else natAt ws c : Nat) : Int)) H Q := q
    refine ite_b (fun h => ?_) (fun h => ?_)
    · have e : natAt ws a = 1 := by
        have h6 := of_decide_eq_true h
        injection h6 with h7
        omega
      walk_at "zz"
      rw [if_pos e] at q'
      exact z_ixL gl (show atI _ ((1 : Nat) : Int) = _ from rfl) (q'.go x5)
    · have e : ¬ natAt ws a = 1 := fun z => of_decide_eq_false h (by show V.int _ = _; rw [z] <;> rfl)
      walk_at "zz"
      rw [if_neg e] at q'
      exact z_ixL gl (show atI _ ((2 : Nat) : Int) = _ from rfl) (q'.go x5)
  | cut w a l =>
    obtain rfl : kd = "cut" := hk.symm
    walk_at "ny"
    walk_at "ny"
    walk_at "ny"
    walk_at "ye"
    refine z_ixL gl (show atI _ ((0 : Nat) : Int) = _ from rfl) ?_
    walk_at "zz"
    refine z_ixT (st_of (x5 _ _ ht)) (show atI _ ((3 : Nat) : Int) = _ from rfl) ?_
    walk_at "zz"
    obtain ⟨⟨h1, h2⟩, h3, h4⟩ := hok
    have := (lw a h3).2.2
    refine ⟨natAt ws a, l, w, rfl, by omega, h2, fun H6 e6 => ?_⟩
    exact q.go (x5.trans e6)
  | join w a b =>
    obtain rfl : kd = "join" := hk.symm
    walk_at "ny"
    walk_at "ny"
    walk_at "ny"
    walk_at "ny"
    walk_at "ye"
    refine z_ixL gl (show atI _ ((0 : Nat) : Int) = _ from rfl) ?_
    walk_at "zz"
    refine z_ixL gl (show atI _ ((1 : Nat) : Int) = _ from rfl) ?_
    walk_at "zz"
    obtain ⟨⟨h1, h2⟩, ⟨h3, h4⟩, h6⟩ := hok
    obtain ⟨tb, eb, gb⟩ := its_at hxs (i := b) (by rw [List.length_map]; exact h4)
    rw [List.getElem_map] at gb
    refine z_ixT (st_of (x5 _ _ ht)) (show atI _ ((3 : Nat) : Int) = _ from rfl) ?_
    refine z_ixT (st_of (x5 _ _ hpr)) (atI_nat eb) ?_
    walk_at "zz"
    refine z_ixT (st_of (x5 _ _ gb)) (show atI _ ((1 : Nat) : Int) = _ from atI_nat (vs1 _)) ?_
    walk_at "zz"
    have ew : (rs[b]).w = wAt rs b := (wAt_get h4).symm
    rw [ew]
    have la := lw a h3
    have lb := lw b h4
    refine ⟨natAt ws a, natAt ws b, wAt rs b, rfl, lb.2.2, lb.1, Nat.lt_of_lt_of_le la.1 (Nat.pow_le_pow_right (by decide) la.2.2), fun H6 e6 => ?_⟩
    exact q.go (x5.trans e6)
  | fill w a =>
    obtain rfl : kd = "fill" := hk.symm
    walk_at "ny"
    walk_at "ny"
    walk_at "ny"
    walk_at "ny"
    walk_at "ny"
    walk_at "ye"
    exact z_ixL gl (show atI _ ((0 : Nat) : Int) = _ from rfl) (q.go x5)
  | tab w k a =>
    obtain rfl : kd = "table" := hk.symm
    walk_at "ny"
    walk_at "ny"
    walk_at "ny"
    walk_at "ny"
    walk_at "ny"
    walk_at "ny"
    walk_at "zz"
    obtain ⟨⟨h1, h2⟩, h3, h4⟩ := hok
    obtain ⟨qt, eq, et⟩ := tab_at h4
    refine z_ixT (st_of (x5 _ _ ht)) (show atI _ ((2 : Nat) : Int) = _ from rfl) ?_
    have ek : (W.tabs.map fun q => V.ref q.2.1)[k]? = some (.ref qt.2.1) := by rw [List.getElem?_map, eq] <;> rfl
    refine z_ixT (st_of (x5 _ _ hpt)) (atI_nat ek) ?_
    walk_at "zz"
    refine z_ixL gl (show atI _ ((0 : Nat) : Int) = _ from rfl) ?_
    walk_at "zz"
    refine ⟨qt.2.1, true, qt.2.2, natAt ws a, rfl, st_of (x5 _ _ (htab qt (List.mem_of_getElem? eq))), fun H6 e6 => ?_⟩
    have q' : RetV (.int (natAt (tabAt W k) (natAt ws a) : Int)) H Q := q
    rw [et] at q'
    exact q'.go (x5.trans e6)
theorem natAt_lt {rs : List Rw} {ws : List Nat} (h : WsOk rs ws) {a : Nat} (ha : a < rs.length) : (ws.map vi)[a]? = some (vi (natAt ws a)) := natAt_some (by rw [h.1]; exact ha)
theorem vr_L_worth (vs H Q E) (h : sp_L_worth K vs H Q E) : (rd_L_worth K) { nx := fun _ H' => Q .non H', rt := Q } (start ["_law_row", "_law_words", "_law_rows", "_law_tables", "_law_kind", "_law_top", "_law_one", "_law_other", "_law_some", "_law_place"] vs) H := by
  obtain ⟨t, c, pr, pt, r, ws, W, rs, xs, rfl, ht, hc, hpr, hxs, hpt, htab, hok, hws, hreck, hlen, q⟩ := h
  unfold rd_L_worth
  walk_at "zz"
  refine z_ixT (st_of ht) (show atI _ ((0 : Nat) : Int) = _ from atI_nat (vs0 _)) ?_
  walk_at "zz"
  refine z_ixT (st_of ht) (show atI _ ((1 : Nat) : Int) = _ from atI_nat (vs1 _)) ?_
  have hrw := (ok_w hok).2
  refine z_i (show CShl 1 (r.w : Int) from ⟨by omega, by have := intBits_le_64 (k := 1) (by decide) (by decide); omega⟩) ?_
  walk_at "zz"
  refine ⟨_, _, rfl, ?_⟩
  walk_at "zz"
  have et : (1 : Int) * 2 ^ ((r.w : Nat) : Int).toNat = ((2 ^ r.w : Nat) : Int) := by
    rw [Int.one_mul, Int.toNat_natCast]
    exact pow_cast _
  rw [et]
  have pos : (0 : Int) < ((2 ^ r.w : Nat) : Int) := by exact_mod_cast Nat.two_pow_pos _
  generalize hk : r.kind = kd
  generalize htop : ((2 ^ r.w : Nat) : Int) = top at pos ⊢
  have lw := fun a => hws.2 a
  cases r with
  | num | inn | rst | mem => cases hreck
  | nt w a =>
    obtain rfl : kd = "not" := hk.symm
    obtain ⟨⟨h1, h2⟩, h3, h4⟩ := hok
    walk_at "ny"
    walk_at "ye"
    refine z_ixT (st_of ht) (show atI _ ((2 : Nat) : Int) = _ from rfl) ?_
    refine z_ixL hc (atI_nat (natAt_lt hws h3)) ?_
    walk_at "zz"
    have := (lw a h3).1
    rw [h4] at this
    have e : top - 1 - (natAt ws a : Int) = ((2 ^ w - 1 - natAt ws a : Nat) : Int) := by
      rw [← htop]
      show ((2 ^ w : Nat) : Int) - 1 - _ = _
      omega
    show Q (.int (top - 1 - (natAt ws a : Int))) H
    rw [e]
    exact q.go (Ex.refl H)
  | two w s a b =>
    obtain rfl : kd = "two" := hk.symm
    obtain ⟨⟨h1, h2⟩, h3, ⟨h4, h5⟩, h6⟩ := hok
    walk_at "ye"
    refine z_ixT (st_of ht) (show atI _ ((3 : Nat) : Int) = _ from rfl) ?_
    refine z_ixL hc (atI_nat (natAt_lt hws h4)) ?_
    walk_at "zz"
    refine z_ixT (st_of ht) (show atI _ ((4 : Nat) : Int) = _ from rfl) ?_
    refine z_ixL hc (atI_nat (natAt_lt hws h5)) ?_
    walk_at "zz"
    refine ⟨_, _, rfl, ?_⟩
    walk_at "zz"
    generalize hx : natAt ws a = x
    generalize hy : natAt ws b = y
    refine z_disp fun p hp => ?_
    have e0 := Ex.new (o := .dK []) hp
    have gp0 : upd H p (.dK []) p = some (.dK []) := upd_same
    generalize upd H p (.dK []) = Ha at e0 gp0 ⊢
    refine z_pairs ?_
    walk_at "zz"
    refine z_pairs ?_
    walk_at "zz"
    refine z_pairs ?_
    walk_at "zz"
    refine z_pairs ?_
    walk_at "zz"
    refine z_pairs0 ⟨gp0, [(Sum.inr "&", .int (Builtin.bitAnd x y)), (Sum.inr "|", .int (Builtin.bitOr x y)), (Sum.inr "^", .int (Builtin.bitXor x y)), (Sum.inr "+", .int (((x : Int) + y) % top))], rfl, Nat.le_of_ble_eq_true rfl, ?_⟩
    have eM : mergeK [] [(Sum.inr "&", .int (Builtin.bitAnd x y)), (Sum.inr "|", .int (Builtin.bitOr x y)), (Sum.inr "^", .int (Builtin.bitXor x y)), (Sum.inr "+", .int (((x : Int) + y) % top))] = ([(Sum.inr "&", .int (Builtin.bitAnd x y)), (Sum.inr "|", .int (Builtin.bitOr x y)), (Sum.inr "^", .int (Builtin.bitXor x y)), (Sum.inr "+", .int (((x : Int) + y) % top))] : List (Key × V)) := rfl
    rw [eM]
    have u1 : But [p] Ha (upd Ha p (.dK [(Sum.inr "&", .int (Builtin.bitAnd x y)), (Sum.inr "|", .int (Builtin.bitOr x y)), (Sum.inr "^", .int (Builtin.bitXor x y)), (Sum.inr "+", .int (((x : Int) + y) % top))])) := But.put (by simp)
    have gb : upd Ha p (.dK [(Sum.inr "&", .int (Builtin.bitAnd x y)), (Sum.inr "|", .int (Builtin.bitOr x y)), (Sum.inr "^", .int (Builtin.bitXor x y)), (Sum.inr "+", .int (((x : Int) + y) % top))]) p = _ := upd_same
    generalize upd Ha p (.dK [(Sum.inr "&", .int (Builtin.bitAnd x y)), (Sum.inr "|", .int (Builtin.bitOr x y)), (Sum.inr "^", .int (Builtin.bitXor x y)), (Sum.inr "+", .int (((x : Int) + y) % top))]) = Hb at u1 gb ⊢
    walk_at "zz"
    refine ⟨.inr (.inr (.inl ⟨rfl, .inl ⟨_, gb⟩⟩)), ?_⟩
    refine z_disp fun p2 hp2 => ?_
    have d0 := Ex.new (o := .dK []) hp2
    have dp0 : upd Hb p2 (.dK []) p2 = some (.dK []) := upd_same
    generalize upd Hb p2 (.dK []) = Hd0 at d0 dp0 ⊢
    refine z_pairs ?_
    walk_at "zz"
    refine z_pairs ?_
    walk_at "zz"
    refine z_pairs ?_
    walk_at "zz"
    refine z_pairs0 ⟨dp0, [(Sum.inr "-", .int (((x : Int) - y) % top)), (Sum.inr "==", .int (if decide (vi x = vi y) then 1 else 0)), (Sum.inr "<", .int (if decide ((x : Int) < y) then 1 else 0))], rfl, Nat.le_of_ble_eq_true rfl, ?_⟩
    have eM2 : mergeK [] [(Sum.inr "-", .int (((x : Int) - y) % top)), (Sum.inr "==", .int (if decide (vi x = vi y) then 1 else 0)), (Sum.inr "<", .int (if decide ((x : Int) < y) then 1 else 0))] = ([(Sum.inr "-", .int (((x : Int) - y) % top)), (Sum.inr "==", .int (if decide (vi x = vi y) then 1 else 0)), (Sum.inr "<", .int (if decide ((x : Int) < y) then 1 else 0))] : List (Key × V)) := rfl
    rw [eM2]
    have d3 : But [p2] Hd0 (upd Hd0 p2 (.dK [(Sum.inr "-", .int (((x : Int) - y) % top)), (Sum.inr "==", .int (if decide (vi x = vi y) then 1 else 0)), (Sum.inr "<", .int (if decide ((x : Int) < y) then 1 else 0))])) := But.put (by simp)
    have gq : upd Hd0 p2 (.dK [(Sum.inr "-", .int (((x : Int) - y) % top)), (Sum.inr "==", .int (if decide (vi x = vi y) then 1 else 0)), (Sum.inr "<", .int (if decide ((x : Int) < y) then 1 else 0))]) p2 = _ := upd_same
    generalize upd Hd0 p2 (.dK [(Sum.inr "-", .int (((x : Int) - y) % top)), (Sum.inr "==", .int (if decide (vi x = vi y) then 1 else 0)), (Sum.inr "<", .int (if decide ((x : Int) < y) then 1 else 0))]) = He at d3 gq ⊢
    have npp : p ∉ [p2] := fun z => by
      rw [List.mem_singleton.mp z, hp2] at gb
      cases gb
    have gbe : He p = _ := d3 _ _ npp (d0 _ _ gb)
    walk_at "zz"
    refine ⟨p, p2, _, _, rfl, rfl, gbe, .inl gq, fun z => npp (by rw [z]; simp), Nat.le_trans (show _ ≤ 8 from Nat.le_of_ble_eq_true rfl) (by decide), ?_⟩
    have eM3 : mergeK [(Sum.inr "&", .int (Builtin.bitAnd x y)), (Sum.inr "|", .int (Builtin.bitOr x y)), (Sum.inr "^", .int (Builtin.bitXor x y)), (Sum.inr "+", .int (((x : Int) + y) % top))] [(Sum.inr "-", .int (((x : Int) - y) % top)), (Sum.inr "==", .int (if decide (vi x = vi y) then 1 else 0)), (Sum.inr "<", .int (if decide ((x : Int) < y) then 1 else 0))] = ([(Sum.inr "&", .int (Builtin.bitAnd x y)), (Sum.inr "|", .int (Builtin.bitOr x y)), (Sum.inr "^", .int (Builtin.bitXor x y)), (Sum.inr "+", .int (((x : Int) + y) % top)), (Sum.inr "-", .int (((x : Int) - y) % top)), (Sum.inr "==", .int (if decide (vi x = vi y) then 1 else 0)), (Sum.inr "<", .int (if decide ((x : Int) < y) then 1 else 0))] : List (Key × V)) := rfl
    rw [eM3]
    have d4 : But [p] He (upd He p (.dK [(Sum.inr "&", .int (Builtin.bitAnd x y)), (Sum.inr "|", .int (Builtin.bitOr x y)), (Sum.inr "^", .int (Builtin.bitXor x y)), (Sum.inr "+", .int (((x : Int) + y) % top)), (Sum.inr "-", .int (((x : Int) - y) % top)), (Sum.inr "==", .int (if decide (vi x = vi y) then 1 else 0)), (Sum.inr "<", .int (if decide ((x : Int) < y) then 1 else 0))])) := But.put (by simp)
    have gz : upd He p (.dK [(Sum.inr "&", .int (Builtin.bitAnd x y)), (Sum.inr "|", .int (Builtin.bitOr x y)), (Sum.inr "^", .int (Builtin.bitXor x y)), (Sum.inr "+", .int (((x : Int) + y) % top)), (Sum.inr "-", .int (((x : Int) - y) % top)), (Sum.inr "==", .int (if decide (vi x = vi y) then 1 else 0)), (Sum.inr "<", .int (if decide ((x : Int) < y) then 1 else 0))]) p = _ := upd_same
    generalize upd He p (.dK [(Sum.inr "&", .int (Builtin.bitAnd x y)), (Sum.inr "|", .int (Builtin.bitOr x y)), (Sum.inr "^", .int (Builtin.bitXor x y)), (Sum.inr "+", .int (((x : Int) + y) % top)), (Sum.inr "-", .int (((x : Int) - y) % top)), (Sum.inr "==", .int (if decide (vi x = vi y) then 1 else 0)), (Sum.inr "<", .int (if decide ((x : Int) < y) then 1 else 0))]) = Hf at d4 gz ⊢
    have x7 : Ex H Hb := ex_but e0 u1 (by simp [hp])
    have x8 : Ex H He := ex_but (x7.trans d0) d3 (by simp [fresh_back x7 hp2])
    have x9 : Ex H Hf := ex_but x8 d4 (by simp [hp])
    have q' : RetV (.int (twoI s w (natAt ws a) (natAt ws b))) H Q := q
    rw [hx, hy] at q'
    walk_at "zz"
    refine z_ixT (st_of (x9 _ _ ht)) (show atI _ ((2 : Nat) : Int) = _ from rfl) ?_
    have htw : top = 2 ^ w := htop.symm.trans (pow_cast w).symm
    have key : valV ([(Sum.inr "&", .int (Builtin.bitAnd x y)), (Sum.inr "|", .int (Builtin.bitOr x y)), (Sum.inr "^", .int (Builtin.bitXor x y)), (Sum.inr "+", .int (((x : Int) + y) % top)), (Sum.inr "-", .int (((x : Int) - y) % top)), (Sum.inr "==", .int (if decide (vi x = vi y) then 1 else 0)), (Sum.inr "<", .int (if decide ((x : Int) < y) then 1 else 0))] : List (Key × V)) (Sum.inr (sg7 s)) = some (.int (twoI s w x y)) := by
      match s, h3 with
      | 0, _ =>
        show some (V.int (Builtin.bitAnd x y)) = _
        rw [band_nat] <;> rfl
      | 1, _ =>
        show some (V.int (Builtin.bitOr x y)) = _
        rw [bor_nat] <;> rfl
      | 2, _ =>
        show some (V.int (Builtin.bitXor x y)) = _
        rw [bxor_nat] <;> rfl
      | 3, _ =>
        show some (V.int (((x : Int) + y) % top)) = some (V.int (((x : Int) + y) % 2 ^ w))
        rw [htw]
      | 4, _ =>
        show some (V.int (((x : Int) - y) % top)) = some (V.int (((x : Int) - y) % 2 ^ w))
        rw [htw]
      | 5, _ =>
        show some (V.int (if decide (vi x = vi y) then 1 else 0)) = some (V.int (if x = y then 1 else 0))
        by_cases z : x = y
        · rw [if_pos z, if_pos (decide_eq_true (by rw [z]))]
        · rw [if_neg z, if_neg (fun h => z (by
            have h6 := of_decide_eq_true h
            injection h6 with h7
            omega))]
      | 6, _ =>
        show some (V.int (if decide ((x : Int) < y) then 1 else 0)) = some (V.int (if x < y then 1 else 0))
        by_cases z : x < y
        · rw [if_pos z, if_pos (decide_eq_true (by omega))]
        · rw [if_neg z, if_neg (fun h => z (by
            have h6 := of_decide_eq_true h
            omega))]
    exact ⟨p, _, rfl, dgK gz key, q'.go x9⟩
  | pick w a b c' =>
    obtain rfl : kd = "pick" := hk.symm
    obtain ⟨⟨h1, h2⟩, ⟨h3, h4, h5⟩, h6, h7, h8⟩ := hok
    walk_at "ny"
    walk_at "ny"
    walk_at "ye"
    have q' : RetV (.int ((if natAt ws a = 1 then natAt ws b else natAt ws c' : Nat) : Int)) H Q := q
    have la := (lw a h3).1
    rw [h6] at la
    refine z_ixT (st_of ht) (show atI _ ((2 : Nat) : Int) = _ from rfl) ?_
    refine z_ixL hc (atI_nat (natAt_lt hws h3)) ?_
    walk_at "zz"
    by_cases h0 : natAt ws a = 0
    · have e : (if decide ((vi (natAt ws a)) = V.int 0) then (1 : Int) else 0) = 1 := by rw [h0] <;> rfl
      have e' : (3 : Int) + (if decide ((vi (natAt ws a)) = V.int 0) then (1 : Int) else 0) = ((4 : Nat) : Int) := by rw [e] <;> rfl
      have ez : ¬ natAt ws a = 1 := by omega
      rw [if_neg ez] at q'
      show rIxT K (V.ref t) (V.int (3 + (if decide ((vi (natAt ws a)) = V.int 0) then (1 : Int) else 0))) H _
      rw [e']
      refine z_ixT (st_of ht) (show atI _ ((4 : Nat) : Int) = _ from rfl) ?_
      exact z_ixL hc (atI_nat (natAt_lt hws h5)) (q'.go (Ex.refl H))
    · have e : (if decide ((vi (natAt ws a)) = V.int 0) then (1 : Int) else 0) = 0 := by
        rw [if_neg]
        intro z
        have h6 := of_decide_eq_true z
        injection h6 with h7
        omega
      have e' : (3 : Int) + (if decide ((vi (natAt ws a)) = V.int 0) then (1 : Int) else 0) = ((3 : Nat) : Int) := by rw [e] <;> rfl
      have ez : natAt ws a = 1 := by omega
      rw [if_pos ez] at q'
      show rIxT K (V.ref t) (V.int (3 + (if decide ((vi (natAt ws a)) = V.int 0) then (1 : Int) else 0))) H _
      rw [e']
      refine z_ixT (st_of ht) (show atI _ ((3 : Nat) : Int) = _ from rfl) ?_
      exact z_ixL hc (atI_nat (natAt_lt hws h4)) (q'.go (Ex.refl H))
  | cut w a l =>
    obtain rfl : kd = "cut" := hk.symm
    obtain ⟨⟨h1, h2⟩, h3, h4⟩ := hok
    walk_at "ny"
    walk_at "ny"
    walk_at "ny"
    walk_at "ye"
    refine z_ixT (st_of ht) (show atI _ ((2 : Nat) : Int) = _ from rfl) ?_
    refine z_ixL hc (atI_nat (natAt_lt hws h3)) ?_
    walk_at "zz"
    refine z_ixT (st_of ht) (show atI _ ((3 : Nat) : Int) = _ from rfl) ?_
    refine z_i (show (0 : Int) ≤ (l : Int) by omega) ?_
    walk_at "zz"
    have e : (natAt ws a : Int) / 2 ^ ((l : Nat) : Int).toNat % top = ((natAt ws a / 2 ^ l % 2 ^ w : Nat) : Int) := by
      rw [← htop, Int.toNat_natCast, pow_cast]
      rfl
    show Q (.int ((natAt ws a : Int) / 2 ^ ((l : Nat) : Int).toNat % top)) H
    rw [e]
    exact q.go (Ex.refl H)
  | join w a b =>
    obtain rfl : kd = "join" := hk.symm
    obtain ⟨⟨h1, h2⟩, ⟨h3, h4⟩, h6⟩ := hok
    walk_at "ny"
    walk_at "ny"
    walk_at "ny"
    walk_at "ny"
    walk_at "ye"
    refine z_ixT (st_of ht) (show atI _ ((2 : Nat) : Int) = _ from rfl) ?_
    refine z_ixL hc (atI_nat (natAt_lt hws h3)) ?_
    walk_at "zz"
    obtain ⟨tb, eb, gb⟩ := its_at hxs (i := b) (by rw [List.length_map]; exact h4)
    rw [List.getElem_map] at gb
    refine z_ixT (st_of ht) (show atI _ ((3 : Nat) : Int) = _ from rfl) ?_
    refine z_ixT (st_of hpr) (atI_nat eb) ?_
    walk_at "zz"
    refine z_ixT (st_of gb) (show atI _ ((1 : Nat) : Int) = _ from atI_nat (vs1 _)) ?_
    have ew : (rs[b]).w = wAt rs b := (wAt_get h4).symm
    rw [ew]
    have la := lw a h3
    have lb := lw b h4
    have l64 : natAt ws a < 2 ^ 64 := Nat.lt_of_lt_of_le la.1 (Nat.pow_le_pow_right (by decide) la.2.2)
    refine z_i (shl_ok (n := 64) (by rw [Int.natAbs_natCast]; exact l64) (by have := lb.2.2; omega)) ?_
    walk_at "zz"
    refine z_ixT (st_of ht) (show atI _ ((3 : Nat) : Int) = _ from rfl) ?_
    refine z_ixL hc (atI_nat (natAt_lt hws h4)) ?_
    walk_at "zz"
    have e : (natAt ws a : Int) * 2 ^ ((wAt rs b : Nat) : Int).toNat + (natAt ws b : Int) = ((natAt ws b + 2 ^ wAt rs b * natAt ws a : Nat) : Int) := by
      rw [Int.toNat_natCast, pow_cast]
      push_cast
      rw [Int.mul_comm, Int.add_comm]
    show Q (.int ((natAt ws a : Int) * 2 ^ ((wAt rs b : Nat) : Int).toNat + (natAt ws b : Int))) H
    rw [e]
    exact q.go (Ex.refl H)
  | fill w a =>
    obtain rfl : kd = "fill" := hk.symm
    obtain ⟨⟨h1, h2⟩, h3, h4⟩ := hok
    walk_at "ny"
    walk_at "ny"
    walk_at "ny"
    walk_at "ny"
    walk_at "ny"
    walk_at "ye"
    refine z_ixT (st_of ht) (show atI _ ((2 : Nat) : Int) = _ from rfl) ?_
    exact z_ixL hc (atI_nat (natAt_lt hws h3)) (q.go (Ex.refl H))
  | tab w k a =>
    obtain rfl : kd = "table" := hk.symm
    obtain ⟨⟨h1, h2⟩, h3, h4⟩ := hok
    walk_at "ny"
    walk_at "ny"
    walk_at "ny"
    walk_at "ny"
    walk_at "ny"
    walk_at "ny"
    walk_at "zz"
    refine z_ixT (st_of ht) (show atI _ ((3 : Nat) : Int) = _ from rfl) ?_
    refine z_ixL hc (atI_nat (natAt_lt hws h3)) ?_
    walk_at "zz"
    obtain ⟨qt, eq, et⟩ := tab_at h4
    refine z_ixT (st_of ht) (show atI _ ((2 : Nat) : Int) = _ from rfl) ?_
    have ek : (W.tabs.map fun q => V.ref q.2.1)[k]? = some (.ref qt.2.1) := by rw [List.getElem?_map, eq] <;> rfl
    refine z_ixT (st_of hpt) (atI_nat ek) ?_
    have gq : SqT K H qt.2.1 _ := st_of (htab qt (List.mem_of_getElem? eq))
    have q' : RetV (.int (natAt (tabAt W k) (natAt ws a) : Int)) H Q := q
    rw [et] at q'
    walk_at "zz"
    refine z_lenT gq ?_
    rw [List.length_map]
    walk_at "zz"
    refine ite_b (fun h => ?_) (fun h => ?_)
    · have hi : natAt ws a < qt.2.2.length := by
        have := of_decide_eq_true h
        omega
      walk_at "zz"
      refine z_ixT (st_of ht) (show atI _ ((2 : Nat) : Int) = _ from rfl) ?_
      refine z_ixT (st_of hpt) (atI_nat ek) ?_
      walk_at "zz"
      exact z_ixT gq (atI_nat (natAt_some hi)) (q'.go (Ex.refl H))
    · have hi : ¬ natAt ws a < qt.2.2.length := by
        have := of_decide_eq_false h
        omega
      walk_at "zz"
      have e : natAt qt.2.2 (natAt ws a) = 0 := by
        show (qt.2.2[natAt ws a]?).getD 0 = 0
        rw [List.getElem?_eq_none (by omega)] <;> rfl
      rw [e] at q'
      exact q'.go (Ex.refl H)
theorem vis_int (l : List Nat) : l.map vi = (l.map Int.ofNat).map V.int := by rw [List.map_map] <;> rfl
theorem z_neN0 {H : Hp} {Q : VK} {a c : Addr} {l : List Nat} (hx : SqL K H a (l.map vi)) (hy : SqL K H c (l.map vi)) (q : Q (.bl false) H) : rNeD K (.ref a) (.ref c) H Q := by
  rw [vis_int] at hx hy
  exact z_neD (b := true) (.lst hx (dp_ints _)) (.lst hy (dp_ints _)) (cl_ints _) (cl_ints _) (by show PyData.depthAll _ + 1 ≤ 64; rw [depth_ints]; decide) (by show PyData.depthAll _ + 1 ≤ 64; rw [depth_ints]; decide) ⟨fun _ => rfl, fun _ => rfl⟩ q
/-- whole numbers and texts that may stand in data -/
def Pln (v : V) : Prop := (∃ i, v = .int i) ∨ ∃ x, v = .str x ∧ cl (.str x) = true
def dV : V → PyData
  | .int i => .int i
  | .str x => .str x
  | _ => .none
theorem dp_pln {H : Hp} : ∀ {vs : List V}, (∀ v ∈ vs, Pln v) → DpAll K H vs (vs.map dV) ∧ clAll (vs.map dV) = true ∧ PyData.depthAll (vs.map dV) = 0
  | [], _ => ⟨.nil, rfl, rfl⟩
  | v :: vs, h => by
    obtain ⟨h1, h2, h3⟩ := dp_pln (H := H) fun x hx => h x (List.mem_cons_of_mem _ hx)
    rcases h v (by simp) with ⟨i, rfl⟩ | ⟨x, rfl, hc⟩
    · refine ⟨.cons (.int i) h1, h2, ?_⟩
      show max 0 _ = 0
      rw [h3] <;> rfl
    · refine ⟨.cons (.str x) h1, Bool.and_eq_true_iff.mpr ⟨hc, h2⟩, ?_⟩
      show max 0 _ = 0
      rw [h3] <;> rfl
theorem z_neT0 {H : Hp} {Q : VK} {a c : Addr} {vs : List V} (h : ∀ v ∈ vs, Pln v) (hx : SqT K H a vs) (hy : SqT K H c vs) (q : Q (.bl false) H) : rNeD K (.ref a) (.ref c) H Q := by
  obtain ⟨h1, h2, h3⟩ := dp_pln (K := K) (H := H) h
  exact z_neD (b := true) (.tup hx h1) (.tup hy h1) h2 h2 (by show PyData.depthAll _ + 1 ≤ 64; rw [h3]; decide) (by show PyData.depthAll _ + 1 ≤ 64; rw [h3]; decide) ⟨fun _ => rfl, fun _ => rfl⟩ q
theorem z_eqT1 {H : Hp} {Q : VK} {a c : Addr} {vs : List V} (h : ∀ v ∈ vs, Pln v) (hx : SqT K H a vs) (hy : SqT K H c vs) (q : Q (.bl true) H) : rEqD K (.ref a) (.ref c) H Q := by
  obtain ⟨h1, h2, h3⟩ := dp_pln (K := K) (H := H) h
  exact z_eqD (b := true) (.tup hx h1) (.tup hy h1) h2 h2 (by show PyData.depthAll _ + 1 ≤ 64; rw [h3]; decide) (by show PyData.depthAll _ + 1 ≤ 64; rw [h3]; decide) ⟨fun _ => rfl, fun _ => rfl⟩ q
theorem pln_set {l : List V} {i : Nat} {v : V} (h : ∀ x ∈ l, Pln x) (hv : Pln v) : ∀ x ∈ l.set i v, Pln x := fun x hx => by
  rcases List.mem_or_eq_of_mem_set hx with z | z
  · exact h x z
  · rw [z]
    exact hv
theorem pln_fold : ∀ (ps : List (Nat × Nat)) {l : List V}, (∀ x ∈ l, Pln x) → ∀ x ∈ ps.foldl (fun l p => l.set p.1 (vi p.2)) l, Pln x
  | [], _, h => h
  | p :: ps, l, h => pln_fold ps (pln_set h (.inl ⟨_, rfl⟩))
theorem kind_cl (r : Rw) : cl (.str r.kind) = true := by
  cases r
  · exact (by decide +kernel : cl (.str ("number" : Str)) = true)
  · exact (by decide +kernel : cl (.str ("in" : Str)) = true)
  · exact (by decide +kernel : cl (.str ("rest" : Str)) = true)
  · exact (by decide +kernel : cl (.str ("not" : Str)) = true)
  · exact (by decide +kernel : cl (.str ("two" : Str)) = true)
  · exact (by decide +kernel : cl (.str ("pick" : Str)) = true)
  · exact (by decide +kernel : cl (.str ("cut" : Str)) = true)
  · exact (by decide +kernel : cl (.str ("join" : Str)) = true)
  · exact (by decide +kernel : cl (.str ("fill" : Str)) = true)
  · exact (by decide +kernel : cl (.str ("table" : Str)) = true)
  · exact (by decide +kernel : cl (.str ("memory" : Str)) = true)
theorem pln_vs (r : Rw) : ∀ x ∈ r.vs, Pln x := by
  have sg : ∀ s : Nat, cl (.str (sg7 s)) = true := fun s => by
    match s with
    | 0 | 1 | 2 | 3 | 4 | 5 => decide +kernel
    | s + 6 => exact (show cl (.str "<") = true by decide +kernel)
  intro x hx
  rcases List.mem_cons.mp hx with z | z
  · rw [z]
    exact .inr ⟨_, rfl, kind_cl r⟩
  · rcases List.mem_cons.mp z with z | z
    · exact .inl ⟨_, z⟩
    · cases r <;> simp [Rw.tl] at z <;> first
        | exact .inl ⟨_, z⟩
        | (rcases z with z | z
           · exact .inl ⟨_, z⟩
           · exact .inl ⟨_, z⟩)
        | (rcases z with z | z | z
           · exact .inl ⟨_, z⟩
           · exact .inl ⟨_, z⟩
           · exact .inl ⟨_, z⟩)
        | (rcases z with z | z | z
           · exact .inr ⟨_, z, sg _⟩
           · exact .inl ⟨_, z⟩
           · exact .inl ⟨_, z⟩)
theorem asks_range (r : Rw) : (List.range (r.at_.map vi).length).map (fun i => vi (natAt r.asks i)) = r.asks.map vi := by
  rw [List.length_map, at_len]
  refine List.ext_getElem (by simp) fun i h1 h2 => ?_
  simp at h1
  simp [natAt, h1]
theorem led_same (r : Rw) : ledV r r.asks = r.vs := by cases r <;> rfl
theorem vr_L_right (vs H Q E) (h : sp_L_right K vs H Q E) : (rd_L_right K) { nx := fun _ H' => Q .non H', rt := Q } (start ["_law_net_here", "_law_row", "_law_number", "_law_places", "_law_found", "_law_others", "_law_due", "_law_place", "_law_other", "_law_handed", "_law_k"] vs) H := by
  obtain ⟨v, t, r, n, rfl, ht, hn, q⟩ := h
  unfold rd_L_right
  walk_at "zz"
  refine ⟨t, r, rfl, ht, fun p1 H1 hp1 e1 g1 => ?_⟩
  walk_at "zz"
  refine ⟨t, r, rfl, ex_t e1 ht, fun p2 H2 hp2 e2 g2 => ?_⟩
  walk_at "zz"
  refine z_isi (ty_lst (sq_of g2)) rfl ?_
  walk_at "zz"
  refine ite_f ?_
  walk_at "zz"
  have x2 := e1.trans e2
  refine z_CL (sq_of (e2 _ _ g1)) (by rw [List.length_map]; exact Nat.le_trans (at_le r) (by decide)) (fun _ => true) (fun i => vi (natAt r.asks i)) (fun _ => rfl) (fun i x H' hi ex e => fun H1 e1 Q' q' => q' _ (Ex.refl _)) (fun i x H' hi ex e _ => fun Ha e1 Q' q' => ?_) (fun p3 H3 hp3 e3 g3 => ?_)
  · rw [List.getElem?_map] at ex
    obtain ⟨k, hk, rfl⟩ := Option.map_eq_some_iff.mp ex
    walk_at "zz"
    exact z_ixT (ex_t (x2.trans (e.trans e1)) ht) (atI_nat (at_asks r i k hk).1) (q' _ (Ex.refl _))
  rw [given_all, asks_range] at g3
  walk_at "zz"
  refine z_neN0 (sq_of (e3 _ _ g2)) (sq_of g3) ?_
  walk_at "zz"
  have x3 := x2.trans e3
  have n2 : H p2 = none := fresh_back e1 hp2
  refine z_tyl (sq_of (e3 _ _ g2)) ?_
  walk_at "zz"
  refine z_rapp (e3 _ _ g2) (szlt (by rw [List.length_map, ← at_len]; have := at_le r; omega)) ?_
  have x4 : Ex H (upd H3 p2 (.lst (r.asks.map vi ++ [.int 7]))) := ex_but x3 (But.put (B := [p2]) (by simp)) (by simp [n2])
  have k1 : upd H3 p2 (.lst (r.asks.map vi ++ [.int 7])) p1 = some (.lst (r.at_.map vi)) := (But.put (B := [p2]) (by simp)) _ _ (fun z => by
    rw [← List.mem_singleton.mp z, g1] at hp2
    cases hp2) (e3 _ _ (e2 _ _ g1))
  generalize upd H3 p2 (.lst (r.asks.map vi ++ [.int 7])) = H4 at x4 k1 ⊢
  walk_at "zz"
  refine ⟨t, r, rfl, ex_t x4 ht, fun p5 H5 hp5 e5 g5 => ?_⟩
  walk_at "zz"
  have x5 := x4.trans e5
  refine z_CL (sq_of (e5 _ _ k1)) (by rw [List.length_map]; exact Nat.le_trans (at_le r) (by decide)) (fun _ => true) (fun i => vi (natAt r.asks i)) (fun _ => rfl) (fun i x H' hi ex e => fun H1 e1 Q' q' => q' _ (Ex.refl _)) (fun i x H' hi ex e _ => fun Ha e1 Q' q' => ?_) (fun p6 H6 hp6 e6 g6 => ?_)
  · rw [List.getElem?_map] at ex
    obtain ⟨k, hk, rfl⟩ := Option.map_eq_some_iff.mp ex
    walk_at "zz"
    exact z_ixT (ex_t (x5.trans (e.trans e1)) ht) (atI_nat (at_asks r i k hk).1) (q' _ (Ex.refl _))
  rw [given_all, asks_range] at g6
  walk_at "zz"
  refine z_neN0 (sq_of (e6 _ _ g5)) (sq_of g6) ?_
  walk_at "zz"
  have x6 := x5.trans e6
  have k6 := e6 _ _ (e5 _ _ k1)
  refine z_lenL (sq_of k6) ?_
  walk_at "zz"
  rw [List.length_map]
  obtain ⟨ns, hns⟩ : ∃ ns : List Nat, ns = (List.range r.at_.length).map fun k : Nat => (mixN n (k : Int) % 3000).toNat := ⟨_, rfl⟩
  have lns : ns.length = r.at_.length := by rw [hns]; simp
  refine z_CR1 ⟨by omega, by have := at_le r; omega⟩ (fun _ => true) (fun k => vi (mixN n (k : Int) % 3000).toNat) (fun _ => rfl) (fun i H' hi e => fun H2 e2 Q' q' => q' _ (Ex.refl _)) (fun i H' hi e _ => fun H2 e2 Q' q' => ?_) (fun p7 H7 hp7 e7 g7 => ?_)
  · walk_at "zz"
    have := at_le r
    refine ⟨n, (i : Int), rfl, ⟨by omega, by omega⟩, fun H'' e'' => ?_⟩
    walk_at "zz"
    have e : mixN n (i : Int) % 3000 = (((mixN n (i : Int) % 3000).toNat : Nat) : Int) := by omega
    have q2 := q' _ e''
    show Q' (.int (mixN n (i : Int) % 3000)) H''
    rw [e]
    exact q2
  have e77 : Evl.given ((r.at_.length : Nat) : Int).toNat (fun _ => true) (fun k => vi (mixN n (k : Int) % 3000).toNat) = ns.map vi := by
    rw [given_all, Int.toNat_natCast, hns, List.map_map]
    rfl
  rw [e77] at g7
  clear e77 hns
  walk_at "zz"
  have x7 := x6.trans e7
  refine ⟨t, r.vs, rfl, .inr (ex_t x7 ht), fun p8 hp8 => ?_⟩
  walk_at "zz"
  have k8 := Ex.new (o := .lst r.vs) hp8
  have n8 := fresh_back x7 hp8
  refine z_FZ (xs := r.at_.map vi) (ys := ns.map vi) (n := r.at_.length) (by simp [lns]) (sq_of (k8 _ _ (e7 _ _ k6))) (sq_of (k8 _ _ g7)) (fun i σ' H1 => ∃ y7 y8, σ' = [some v, some (.ref t), some (.int n), some (.ref p1), some (.ref p2), some (.ref p7), some (.ref p8), y7, y8, none, none] ∧ Ex H7 H1 ∧ H1 p8 = some (.lst (((List.zip r.at_ ns).take i).foldl (fun l p => l.set p.1 (vi p.2)) r.vs))) ?_ ?_ ?_ ?_
  · exact ⟨none, none, rfl, k8, upd_same⟩
  · rintro i σ' H1 hi ⟨y4, y5, rfl, e1, g1⟩
    exact ⟨sq_of (e1 _ _ (e7 _ _ k6)), sq_of (e1 _ _ g7)⟩
  · rintro i x y T σ' H1 H2 hi ex ey ⟨y4, y5, rfl, e1, g1⟩ e2 hT rfl
    rw [List.getElem?_map] at ex ey
    obtain ⟨k, hk, rfl⟩ := Option.map_eq_some_iff.mp ex
    obtain ⟨n, hn, rfl⟩ := Option.map_eq_some_iff.mp ey
    have g2 := e2 _ _ g1
    have e12 := e1.trans e2
    have hk2 := (at_asks r i k hk).2
    have hz : (List.zip r.at_ ns)[i]? = some (k, n) := by
      rw [List.getElem?_zip_eq_some]
      exact ⟨hk, hn⟩
    refine z_gtup2 (st_of upd_same) ?_
    walk_at "zz"
    refine ⟨p8, _, (k : Int), k, rfl, rfl, g2, ?_, ?_⟩
    · refine Evl.ixN_nat ?_
      rw [fold_len]
      exact hk2
    walk_at "zz"
    refine ⟨_, _, rfl, ex_but e12 (But.put (B := [p8]) (by simp)) (by simp [hp8]), ?_⟩
    rw [upd_same, take_succ_of hz, List.foldl_append]
    rfl
  rintro σ' H9 ⟨y7, y8, rfl, e9, g9⟩
  have e99 : (List.zip r.at_ ns).take r.at_.length = List.zip r.at_ ns := List.take_of_length_le (by rw [List.length_zip]; omega)
  rw [e99] at g9
  have hld : ((List.zip r.at_ ns).foldl (fun l p => l.set p.1 (vi p.2)) r.vs) = ledV r ns := rfl
  rw [hld] at g9
  have pl : ∀ x ∈ ledV r ns, Pln x := pln_fold _ (pln_vs r)
  have x9 := x7.trans e9
  walk_at "zz"
  refine ⟨p7, ns.map vi, rfl, .inl (sq_of (e9 _ _ g7)), fun p9 hp9 => ?_⟩
  have e10 := Ex.new (o := .lst (ns.map vi)) hp9
  have g10 : upd H9 p9 (.lst (ns.map vi)) p9 = some (.lst (ns.map vi)) := upd_same
  generalize upd H9 p9 (.lst (ns.map vi)) = H10 at e10 g10 ⊢
  walk_at "zz"
  have x10 := x9.trans e10
  refine ⟨t, p9, false, r, ns, rfl, ex_t x10 ht, sq_of g10, lns, fun p11 H11 hp11 e11 g11 => ?_⟩
  walk_at "zz"
  refine ⟨p8, _, rfl, .inl ⟨sq_of (e11 _ _ (e10 _ _ g9)), fun p12 hp12 => ?_⟩⟩
  have e12 := Ex.new (o := .tup (ledV r ns)) hp12
  have g12 : upd H11 p12 (.tup (ledV r ns)) p12 = some (.tup (ledV r ns)) := upd_same
  generalize upd H11 p12 (.tup (ledV r ns)) = H12 at e12 g12 ⊢
  refine z_neT0 pl (st_of (e12 _ _ g11)) (st_of g12) ?_
  have x12 := (x10.trans e11).trans e12
  have y12 := e11.trans e12
  walk_at "zz"
  refine ⟨t, p9, false, r, ns, rfl, ex_t x12 ht, sq_of (y12 _ _ g10), lns, fun p13 H13 hp13 e13 g13 => ?_⟩
  walk_at "zz"
  refine z_isi (ty_tup (st_of g13)) rfl ?_
  walk_at "zz"
  refine ite_f ?_
  walk_at "zz"
  have z13 := y12.trans e13
  refine z_neN0 (sq_of (z13 _ _ g10)) (sq_of (z13 _ _ (e10 _ _ (e9 _ _ g7)))) ?_
  walk_at "zz"
  refine ⟨p7, _, rfl, .inl ⟨sq_of (z13 _ _ (e10 _ _ (e9 _ _ g7))), fun p14 hp14 => ?_⟩⟩
  walk_at "zz"
  have e14 := Ex.new (o := .tup (ns.map vi)) hp14
  have g14 : upd H13 p14 (.tup (ns.map vi)) p14 = some (.tup (ns.map vi)) := upd_same
  generalize upd H13 p14 (.tup (ns.map vi)) = H14 at e14 g14 ⊢
  have x14 := (x12.trans e13).trans e14
  have z14 := e10.trans (z13.trans e14)
  refine ⟨t, p14, true, r, ns, rfl, ex_t x14 ht, st_of g14, lns, fun p15 H15 hp15 e15 g15 => ?_⟩
  walk_at "zz"
  refine ⟨p8, _, rfl, .inl ⟨sq_of (e15 _ _ (z14 _ _ g9)), fun p16 hp16 => ?_⟩⟩
  have e16 := Ex.new (o := .tup (ledV r ns)) hp16
  have g16 : upd H15 p16 (.tup (ledV r ns)) p16 = some (.tup (ledV r ns)) := upd_same
  generalize upd H15 p16 (.tup (ledV r ns)) = H16 at e16 g16 ⊢
  refine z_eqT1 pl (st_of (e16 _ _ g15)) (st_of g16) ?_
  have x16 := (x14.trans e15).trans e16
  have z16 := (e7.trans e9).trans (z14.trans (e15.trans e16))
  refine z_trub (ite_t ?_)
  walk_at "zz"
  refine z_CL (sq_of (z16 _ _ k6)) (by rw [List.length_map]; exact Nat.le_trans (at_le r) (by decide)) (fun _ => true) (fun i => vi (natAt r.asks i)) (fun _ => rfl) (fun i x H' hi ex e => fun H1 e1 Q' q' => q' _ (Ex.refl _)) (fun i x H' hi ex e _ => fun Ha e1 Q' q' => ?_) (fun p17 H17 hp17 e17 g17 => ?_)
  · rw [List.getElem?_map] at ex
    obtain ⟨k, hk, rfl⟩ := Option.map_eq_some_iff.mp ex
    walk_at "zz"
    exact z_ixT (ex_t (x16.trans (e.trans e1)) ht) (atI_nat (at_asks r i k hk).1) (q' _ (Ex.refl _))
  rw [given_all, asks_range] at g17
  walk_at "zz"
  have x17 := x16.trans e17
  refine ⟨t, p17, false, r, r.asks, rfl, ex_t x17 ht, sq_of g17, (at_len r).symm, fun p18 H18 hp18 e18 g18 => ?_⟩
  walk_at "zz"
  rw [led_same] at g18
  exact z_eqT1 (pln_vs r) (st_of g18) (ex_t (x17.trans e18) ht) (q.go (x17.trans e18))
theorem merge_in {i : Key} {v : V} : ∀ (L base : List (Key × V)), (∀ kv ∈ L, kv.1 = i → kv.2 = v) → ((∃ kv ∈ L, kv.1 = i) ∨ valV base i = some v) → valV (mergeK base L) i = some v
  | [], base, _, h => by
    rcases h with ⟨_, z, _⟩ | h
    · cases z
    · exact h
  | kv :: L, base, h1, h2 => by
    refine merge_in L (putK base kv.1 kv.2) (fun x hx => h1 x (List.mem_cons_of_mem _ hx)) ?_
    by_cases hL : ∃ x ∈ L, x.1 = i
    · exact .inl hL
    · refine .inr ?_
      rw [valV_put]
      by_cases e : kv.1 = i
      · rw [if_pos e.symm, h1 kv (by simp) e]
      · rw [if_neg fun z => e z.symm]
        rcases h2 with ⟨x, hx, ex⟩ | h2
        · rcases List.mem_cons.mp hx with z | z
          · exact absurd (by rw [← z]; exact ex) e
          · exact absurd ⟨x, z, ex⟩ hL
        · exact h2
def kvOf (ws : List Nat) (j : Nat) : Key × V := (Sum.inl (j : Int), vi (natAt ws j))
theorem kv_in (ws : List Nat) {n i : Nat} (hi : i < n) : valV (mergeK [] ((List.range n).map (kvOf ws))) (Sum.inl (i : Int)) = some (vi (natAt ws i)) := by
  refine merge_in _ _ (fun kv hkv e => ?_) (.inl ⟨kvOf ws i, List.mem_map.mpr ⟨i, List.mem_range.mpr hi, rfl⟩, rfl⟩)
  obtain ⟨j, hj, rfl⟩ := List.mem_map.mp hkv
  have e' : (j : Int) = (i : Int) := Sum.inl.inj e
  have : j = i := by omega
  rw [this] <;> rfl
theorem wAt_take {rs : List Rw} {k i : Nat} (h : i < (rs.take k).length) : i < rs.length ∧ wAt (rs.take k) i = wAt rs i := by
  rw [List.length_take] at h
  refine ⟨by omega, ?_⟩
  unfold wAt
  rw [List.map_take, List.getElem?_take_of_lt (by omega)]
theorem ok_take {W : Wo} {rs : List Rw} {k : Nat} {r : Rw} (h : r.ok W (rs.take k)) : r.ok W rs := by
  cases r with
  | num | inn | rst => exact h
  | nt w a =>
    obtain ⟨h1, h2, h3⟩ := h
    obtain ⟨z, e⟩ := wAt_take h2
    exact ⟨h1, z, e ▸ h3⟩
  | two w s a b =>
    obtain ⟨h1, h2, ⟨h3, h4⟩, h5, h6⟩ := h
    obtain ⟨z, e⟩ := wAt_take h3
    obtain ⟨z2, e2⟩ := wAt_take h4
    rw [e] at h5 h6
    rw [e2] at h5
    exact ⟨h1, h2, ⟨z, z2⟩, h5, h6⟩
  | pick w a b c =>
    obtain ⟨h1, ⟨h3, h4, h5⟩, h6, h7, h8⟩ := h
    obtain ⟨z, e⟩ := wAt_take h3
    obtain ⟨z2, e2⟩ := wAt_take h4
    obtain ⟨z3, e3⟩ := wAt_take h5
    rw [e] at h6
    rw [e2] at h7
    rw [e3] at h8
    exact ⟨h1, ⟨z, z2, z3⟩, h6, h7, h8⟩
  | cut w a l =>
    obtain ⟨h1, h2, h3⟩ := h
    obtain ⟨z, e⟩ := wAt_take h2
    exact ⟨h1, z, e ▸ h3⟩
  | join w a b =>
    obtain ⟨h1, ⟨h3, h4⟩, h6⟩ := h
    obtain ⟨z, e⟩ := wAt_take h3
    obtain ⟨z2, e2⟩ := wAt_take h4
    rw [e, e2] at h6
    exact ⟨h1, ⟨z, z2⟩, h6⟩
  | fill w a =>
    obtain ⟨h1, h2, h3⟩ := h
    obtain ⟨z, e⟩ := wAt_take h2
    exact ⟨h1, z, e ▸ h3⟩
  | tab w k a =>
    obtain ⟨h1, h2, h3⟩ := h
    exact ⟨h1, (wAt_take h2).1, h3⟩
  | mem w k a =>
    obtain ⟨h1, h2, h3⟩ := h
    exact ⟨h1, (wAt_take h2).1, h3⟩
theorem three (r : Rw) : (r.at_.map vi).isEmpty = true ∨ ((r.at_.map vi).isEmpty = false ∧ r.kind = "memory") ∨ ((r.at_.map vi).isEmpty = false ∧ (r.kind ≠ "memory" ∧ r.reck = true)) := by
  cases r with
  | num | inn | rst => exact .inl rfl
  | mem => exact .inr (.inl ⟨rfl, rfl⟩)
  | nt => exact .inr (.inr ⟨rfl, (by decide : ("not" : Str) ≠ "memory"), rfl⟩)
  | two => exact .inr (.inr ⟨rfl, (by decide : ("two" : Str) ≠ "memory"), rfl⟩)
  | pick => exact .inr (.inr ⟨rfl, (by decide : ("pick" : Str) ≠ "memory"), rfl⟩)
  | cut => exact .inr (.inr ⟨rfl, (by decide : ("cut" : Str) ≠ "memory"), rfl⟩)
  | join => exact .inr (.inr ⟨rfl, (by decide : ("join" : Str) ≠ "memory"), rfl⟩)
  | fill => exact .inr (.inr ⟨rfl, (by decide : ("fill" : Str) ≠ "memory"), rfl⟩)
  | tab => exact .inr (.inr ⟨rfl, (by decide : ("table" : Str) ≠ "memory"), rfl⟩)
theorem dp_vis {H : Hp} (l : List Nat) : DpAll K H (l.map vi) ((l.map Int.ofNat).map PyData.int) := by
  rw [vis_int]
  exact dp_ints _
theorem WordsAt.ex {H H' : Hp} {c : Addr} {ws : List Nat} (h : WordsAt K H c ws) (e : Ex H H') : WordsAt K H' c ws := by
  rcases h with h | ⟨kvs, h, k⟩
  · exact .inl (ex_l e h)
  · exact .inr ⟨kvs, e _ _ h, k⟩
theorem min_at (cs : List Nat) (k : Nat) : atI (cs.map vi ++ [V.int 0]) (if (cs.length : Int) < (k : Int) then (cs.length : Int) else (k : Int)) = some (vi (natAt cs k)) := by
  by_cases h : k < cs.length
  · rw [if_neg (by omega)]
    refine atI_nat ?_
    rw [List.getElem?_append_left (by rw [List.length_map]; exact h)]
    exact natAt_some h
  · have e : (if (cs.length : Int) < (k : Int) then (cs.length : Int) else (k : Int)) = ((cs.length : Nat) : Int) := by
      by_cases h2 : (cs.length : Int) < (k : Int)
      · rw [if_pos h2]
      · rw [if_neg h2]
        omega
    have e0 : natAt cs k = 0 := by
      unfold natAt
      rw [List.getElem?_eq_none (by omega)] <;> rfl
    rw [e, e0]
    refine atI_nat ?_
    rw [List.getElem?_append_right (by rw [List.length_map]; exact Nat.le_refl _), List.length_map, Nat.sub_self]
    rfl
theorem vr_law (vs H Q E) (h : sp_law K vs H Q E) : (rd_law K) { nx := fun _ H' => Q .non H', rt := Q } (start ["_law_script", "_law_net_here", "_law_rows", "_law_words", "_law_told", "_law_k", "_law_row", "_law_number", "_law_found", "_law_cells", "_law_at", "_law_word_here", "_law_j"] vs) H := by
  obtain ⟨a, ns, rfl, ha, hl, q⟩ := h
  unfold rd_law
  walk_at "zz"
  refine ⟨a, ns, rfl, ha, hl, fun H1 p W rs e1 hN hg hw hrs => ?_⟩
  walk_at "zz"
  obtain ⟨v0, v2, v3, v5, pr, pt, xs, gp, gr, hx, gt, htab⟩ := hN
  refine z_ixT (st_of gp) (show atI _ ((1 : Nat) : Int) = _ from rfl) ?_
  walk_at "zz"
  have lx : xs.length = rs.length := by rw [hx.1, List.length_map]
  have row : ∀ {i : Nat} {x : V}, xs[i]? = some x → ∃ (t : Addr) (hi : i < rs.length), x = .ref t ∧ H1 t = some (.tup (rs[i]).vs) := fun {i x} h => by
    have hi : i < xs.length := (List.getElem?_eq_some_iff.mp h).1
    obtain ⟨t, e, g⟩ := its_at hx (i := i) (by rw [← hx.1]; exact hi)
    rw [e] at h
    refine ⟨t, by omega, (Option.some.inj h).symm, ?_⟩
    rw [g, List.getElem_map]
  obtain ⟨wi, hwi⟩ : ∃ wi : Nat → Nat, ∀ i, wi i = (wordN (mixN (cellN ns i) (30 + i)) (wAt rs i)).toNat := ⟨_, fun _ => rfl⟩
  have wi_b : ∀ i, i < rs.length → wordN (mixN (cellN ns i) (30 + i)) (wAt rs i) = (wi i : Int) ∧ wi i < 2 ^ wAt rs i := fun i hi => by
    obtain ⟨x, e, l⟩ := wordN_b (mixN (cellN ns i) (30 + i)) (wAt rs i) (hg.wd hi).1
    have : wi i = x := by rw [hwi, e]; exact Int.toNat_natCast x
    rw [this]
    exact ⟨e, l⟩
  refine z_CEs (b := true) (st_of gr) (by omega) (fun _ => true) (fun i => vi (wi i)) (fun _ _ => rfl) (fun i x H' hi ex e => fun H2 e2 Q' q' => q' _ (Ex.refl _)) (fun i x H' hi ex e _ => fun H2 e2 Q' q' => ?_) (fun p3 H3 hp3 e3 g3 => ?_)
  · obtain ⟨t, hi', rfl, gt'⟩ := row ex
    walk_at "zz"
    refine ⟨a, ns, (i : Int), rfl, ex_l ((e1.trans e).trans e2) ha, ⟨by omega, by omega⟩, fun H4 e4 => ?_⟩
    walk_at "zz"
    refine ⟨cellN ns i, 30 + (i : Int), rfl, ⟨by omega, by omega⟩, fun H5 e5 => ?_⟩
    walk_at "zz"
    refine z_ixT (st_of (e5 _ _ (e4 _ _ (e2 _ _ (e _ _ gt'))))) (show atI _ ((1 : Nat) : Int) = _ from atI_nat (vs1 _)) ?_
    walk_at "zz"
    have hwd := hg.wd hi'
    have ew : (rs[i]).w = wAt rs i := (wAt_get hi').symm
    rw [ew]
    refine ⟨_, wAt rs i, rfl, (mixN_b _ _).1, hwd, fun H6 e6 => ?_⟩
    rw [(wi_b i hi').1]
    exact q' _ ((e4.trans e5).trans e6)
  obtain ⟨ws, hws⟩ : ∃ ws : List Nat, ws = (List.range rs.length).map wi := ⟨_, rfl⟩
  have lws : ws.length = rs.length := by rw [hws]; simp
  have g3 : H3 p3 = some (.lst (ws.map vi)) := by
    rw [g3, given_all, lx, hws, List.map_map]
    rfl
  have hw2 : WsOk rs ws := ⟨lws, fun i hi => by
    have : natAt ws i = wi i := by
      unfold natAt
      rw [hws, List.getElem?_map, List.getElem?_range hi] <;> rfl
    rw [this]
    exact ⟨(wi_b i hi).2, hg.wd hi⟩⟩
  clear hws wi_b hwi
  walk_at "zz"
  refine z_CEw (sq_of g3) (fun D i H2 => ∃ ps : List Addr, H2 D = some (.lst (ps.map V.ref)) ∧ ps.length = i ∧ Paired (fun p kv => H2 p = some (.tup [kV kv.1, kv.2])) ps ((List.range i).map (kvOf ws)) ∧ Ex H3 H2) (fun D hD => ⟨[], upd_same, rfl, .nil, Ex.new hD⟩) (fun D i H2 hD hP => ?_) (fun _ _ => rfl) (fun D i x H2 H2' hD hi ex hP e => ?_) (fun D H4 hD hP => ?_)
  · obtain ⟨ps, _, _, _, e⟩ := hP
    exact sq_of (e _ _ g3)
  · obtain ⟨ps, gD, lp, hp, e3'⟩ := hP
    rw [List.length_map] at hi
    rw [natAt_some hi] at ex
    obtain rfl := Option.some.inj ex
    walk_at "zz"
    refine ⟨szl (by simp), fun T hT => ?_⟩
    have eT := e.trans (Ex.new (o := .tup [.int (i : Int), vi (natAt ws i)]) hT)
    have gT : upd H2' T (.tup [.int (i : Int), vi (natAt ws i)]) T = some (.tup [.int (i : Int), vi (natAt ws i)]) := upd_same
    generalize upd H2' T (.tup [.int (i : Int), vi (natAt ws i)]) = H5 at eT gT ⊢
    have gD5 := eT _ _ gD
    refine ⟨_, gD5, szlt (by rw [List.length_map]; omega), ps ++ [T], ?_, by simp [lp], ?_, ?_⟩
    · rw [upd_same, List.map_append] <;> rfl
    · have up : ∀ (b : Addr) y, H5 b = some (.tup y) → upd H5 D (.lst (ps.map V.ref ++ [.ref T])) b = some (.tup y) := fun b y g => by
        refine (But.put (B := [D]) (by simp)) b _ (fun z => ?_) g
        rw [List.mem_singleton.mp z, gD5] at g
        cases g
      rw [List.range_succ, List.map_append]
      exact (Paired.mapP hp fun b kv g => up b _ (eT _ _ g)).snoc (up T _ gT)
    · exact ex_but (e3'.trans eT) (But.put (B := [D]) (by simp)) (by simp [hD])
  obtain ⟨ps, gD, lp, hpp, e4⟩ := hP
  rw [List.length_map] at hpp
  walk_at "zz"
  refine ⟨D, ps, _, rfl, sq_of gD, Paired.mapP hpp (fun _ _ g => st_of g), fun p4 hp4 => ?_⟩
  have hkv := fun i (hi : i < ws.length) => kv_in ws hi
  generalize mergeK [] ((List.range ws.length).map (kvOf ws)) = kvs at hkv ⊢
  have e5 := Ex.new (o := .dK kvs) hp4
  have g4 : upd H4 p4 (.dK kvs) p4 = some (.dK kvs) := upd_same
  generalize upd H4 p4 (.dK kvs) = H5 at e5 g4 ⊢
  walk_at "zz"
  have y5 := (e3.trans e4).trans e5
  have x5 := e1.trans y5
  have g35 := e5 _ _ (e4 _ _ g3)
  refine z_FEs (b := true) (st_of (y5 _ _ gr)) (fun i σ' H' => ∃ y5 y6 y7 y8, σ' = [some (.ref a), some (.ref p), some (.ref pr), some (.ref p3), some (.ref p4), y5, y6, y7, y8, none, none, none, none] ∧ Ex H5 H') ?_ ?_ ?_ ?_
  · exact ⟨_, _, _, _, rfl, Ex.refl _⟩
  · rintro i σ' H' hi ⟨y5', y6, y7, y8, rfl, e⟩
    exact st_of (e _ _ (y5 _ _ gr))
  · rintro i x T σ' H6 H7 hi ex ⟨y5', y6, y7, y8, rfl, e6⟩ e7 hT rfl
    obtain ⟨t, hi', rfl, gt'⟩ := row ex
    refine z_gtup2 (st_of upd_same) ?_
    walk_at "zz"
    generalize upd H6 T (.tup [.int (i : Nat), .ref t]) = H8 at e7 ⊢
    have e8 := e6.trans e7
    refine ⟨a, ns, (i : Int), rfl, ex_l (x5.trans e8) ha, ⟨by omega, by omega⟩, fun H9 e9 => ?_⟩
    walk_at "zz"
    refine ⟨cellN ns i, 60, rfl, ⟨by decide, by decide⟩, fun H10 e10 => ?_⟩
    walk_at "zz"
    have hok : (rs[i]).ok W rs := ok_take (hg.ok i _ (List.getElem?_eq_getElem hi'))
    generalize rs[i] = r at hok gt' ⊢
    have z10 := e8.trans (e9.trans e10)
    have w10 := y5.trans z10
    obtain ⟨m0, m1⟩ := mixN_b (cellN ns i) 60
    generalize mixN (cellN ns i) 60 = m at m0 m1 ⊢
    refine ⟨.ref p, t, r, m, rfl, st_of (w10 _ _ gt'), ⟨m0, m1⟩, fun H11 e11 => ?_⟩
    walk_at "zz"
    refine ite_f ?_
    walk_at "zz"
    have w11 := w10.trans e11
    refine ⟨t, r, rfl, st_of (w11 _ _ gt'), fun p12 H12 hp12 e12 g12 => ?_⟩
    walk_at "zz"
    refine ⟨szl (by simp), fun p13 hp13 => ?_⟩
    have e13 := Ex.new (o := .lst []) hp13
    have g13 : upd H12 p13 (.lst []) p13 = some (.lst []) := upd_same
    generalize upd H12 p13 (.lst []) = H13 at e13 g13 ⊢
    refine z_neNil (sq_of (e13 _ _ g12)) (dp_vis _) (sq_of g13) (cl_ints _) (by rw [depth_ints]; decide) ?_
    have w13 := w11.trans (e12.trans e13)
    have z13 := z10.trans (e11.trans (e12.trans e13))
    rcases three r with h3 | ⟨h3, hk⟩ | ⟨h3, hk, hr⟩
    · rw [h3]
      walk_at "zz"
      refine ite_f ?_
      walk_at "zz"
      exact ⟨_, _, _, _, rfl, z13⟩
    · rw [h3]
      walk_at "zz"
      refine ite_t ?_
      walk_at "zz"
      refine z_ixT (st_of (w13 _ _ gt')) (show atI _ ((0 : Nat) : Int) = _ from atI_nat (vs0 _)) ?_
      rw [hk]
      walk_at "zz"
      refine ite_b (fun h => absurd h (by decide)) (fun _ => ?_)
      walk_at "zz"
      exact ⟨_, _, _, _, rfl, z13⟩
    · rw [h3]
      walk_at "zz"
      refine ite_t ?_
      walk_at "zz"
      refine z_ixT (st_of (w13 _ _ gt')) (show atI _ ((0 : Nat) : Int) = _ from atI_nat (vs0 _)) ?_
      walk_at "zz"
      have hkd : decide (V.str r.kind = V.str "memory") = false := decide_eq_false fun z => hk (V.str.inj z)
      rw [hkd]
      refine ite_t ?_
      walk_at "zz"
      obtain ⟨wa, hwa, hWA⟩ : ∃ wa, atI [V.ref p3, .ref p4] (m % 2) = some (.ref wa) ∧ WordsAt K H5 wa ws := by
        rcases (by omega : m % 2 = 0 ∨ m % 2 = 1) with h | h
        · rw [h]
          exact ⟨p3, rfl, .inl (sq_of g35)⟩
        · rw [h]
          exact ⟨p4, rfl, .inr ⟨kvs, g4, hkv⟩⟩
      refine ⟨szl (by simp), fun p14 hp14 => ?_⟩
      have e14 := Ex.new (o := .lst [.ref p3, .ref p4]) hp14
      have g14 : upd H13 p14 (.lst [.ref p3, .ref p4]) p14 = some (.lst [.ref p3, .ref p4]) := upd_same
      generalize upd H13 p14 (.lst [.ref p3, .ref p4]) = H14 at e14 g14 ⊢
      have w14 := w13.trans e14
      have z14 := z13.trans e14
      walk_at "zz"
      refine z_ixL (sq_of g14) hwa ?_
      walk_at "zz"
      refine z_ixT (st_of (w14 _ _ gp)) (show atI _ ((4 : Nat) : Int) = _ from rfl) ?_
      walk_at "zz"
      refine ⟨t, wa, pr, pt, r, ws, W, rs, xs, rfl, w14 _ _ gt', hWA.ex z14, w14 _ _ gr, its_mono w14 hx, w14 _ _ gt, fun q hq => w14 _ _ (htab q hq), hok, hw2, hr, hrs, fun H15 e15 => ?_⟩
      walk_at "zz"
      have w15 := w14.trans e15
      have z15 := z14.trans e15
      refine z_ixT (st_of (w15 _ _ gp)) (show atI _ ((4 : Nat) : Int) = _ from rfl) ?_
      walk_at "zz"
      refine ⟨t, p3, pr, pt, r, ws, W, rs, xs, rfl, w15 _ _ gt', sq_of (z15 _ _ g35), w15 _ _ gr, its_mono w15 hx, w15 _ _ gt, fun q hq => w15 _ _ (htab q hq), hok, hw2, hr, hrs, fun H16 e16 => ?_⟩
      walk_at "zz"
      generalize worthN W rs ws r = wo
      have hwd : decide (V.int wo = V.int wo) = true := decide_eq_true rfl
      rw [hwd]
      walk_at "zz"
      refine ite_f ?_
      walk_at "zz"
      refine z_isi (T := "int") (b := false) (U := "bool") (.base (.int wo)) (kit_ty (by decide +kernel)) ?_
      walk_at "zz"
      refine z_isi (T := "int") (b := true) (U := "int") (.base (.int wo)) (kit_ty (by decide +kernel)) ?_
      walk_at "zz"
      refine ite_f ?_
      walk_at "zz"
      exact ⟨_, _, _, _, rfl, z15.trans e16⟩
  rintro σ' H6 ⟨y5', y6, y7, y8, rfl, e6⟩
  walk_at "zz"
  refine z_FR1 (by decide) (fun i σ' H' => ∃ y5 y6 y7 y8 y9 y10, σ' = [some (.ref a), some (.ref p), some (.ref pr), some (.ref p3), some (.ref p4), y5, y6, y7, y8, y9, y10, none, none] ∧ Ex H5 H') ?_ ?_ ?_
  · exact ⟨_, _, _, _, _, _, rfl, e6⟩
  · rintro i σ' H7 hi ⟨y5', y6', y7', y8', y9', y10', rfl, e7⟩
    walk_at "zz"
    have hi6 : i < 6 := hi
    refine ⟨a, ns, (i : Int), rfl, ex_l (x5.trans e7) ha, ⟨by omega, by omega⟩, fun H9 e9 => ?_⟩
    walk_at "zz"
    refine ⟨cellN ns i, 70 + (i : Int), rfl, ⟨by omega, by omega⟩, fun H10 e10 => ?_⟩
    walk_at "zz"
    obtain ⟨m0, m1⟩ := mixN_b (cellN ns i) (70 + (i : Int))
    generalize mixN (cellN ns i) (70 + (i : Int)) = m at m0 m1 ⊢
    have z10 := e7.trans (e9.trans e10)
    refine z_CR1 (m := m % 6) ⟨by omega, by omega⟩ (fun _ => true) (fun j => vi (wordN (mixN m (j : Int)) 64).toNat) (fun _ => rfl) (fun i H' hi e => fun H2 e2 Q' q' => q' _ (Ex.refl _)) (fun j H' hj e _ => fun H2 e2 Q' q' => ?_) (fun p11 H11 hp11 e11 g11 => ?_)
    · walk_at "zz"
      refine ⟨m, (j : Int), rfl, ⟨by omega, by omega⟩, fun H3 e3 => ?_⟩
      walk_at "zz"
      refine ⟨mixN m (j : Int), 64, rfl, (mixN_b _ _).1, ⟨by decide, by decide⟩, fun H4 e4 => ?_⟩
      obtain ⟨x, ex, _⟩ := wordN_b (mixN m (j : Int)) 64 (by decide)
      have q2 := q' _ (e3.trans e4)
      rw [ex, Int.toNat_natCast] at q2
      rw [ex]
      exact q2
    obtain ⟨cs, hcs⟩ : ∃ cs : List Nat, cs = (List.range (m % 6).toNat).map fun j : Nat => (wordN (mixN m (j : Int)) 64).toNat := ⟨_, rfl⟩
    have lcs : cs.length ≤ 5 := by
      rw [hcs]
      simp
      omega
    have g11 : H11 p11 = some (.lst (cs.map vi)) := by
      rw [g11, given_all, hcs, List.map_map]
      rfl
    clear hcs
    walk_at "zz"
    refine z_lenL (sq_of g11) ?_
    rw [List.length_map]
    walk_at "zz"
    refine ⟨m / 6, 64, rfl, by omega, ⟨by decide, by decide⟩, fun H12 e12 => ?_⟩
    walk_at "zz"
    refine ⟨szl (by simp), fun p13 hp13 => ?_⟩
    obtain ⟨k, hk⟩ : ∃ k : Nat, atI [V.int (m / 6 % 7), .int (cs.length : Int), .int (wordN (m / 6) 64)] (m / 42 % 3) = some (vi k) := by
      rcases (by omega : m / 42 % 3 = 0 ∨ m / 42 % 3 = 1 ∨ m / 42 % 3 = 2) with h | h | h
      · rw [h]
        refine ⟨(m / 6 % 7).toNat, ?_⟩
        show some (V.int (m / 6 % 7)) = some (V.int ((m / 6 % 7).toNat : Int))
        rw [Int.toNat_of_nonneg (by omega)]
      · rw [h]
        exact ⟨cs.length, rfl⟩
      · rw [h]
        obtain ⟨x, e, _⟩ := wordN_b (m / 6) 64 (by decide)
        refine ⟨x, ?_⟩
        rw [e] <;> rfl
    have e13 := Ex.new (o := .lst [V.int (m / 6 % 7), .int (cs.length : Int), .int (wordN (m / 6) 64)]) hp13
    have g13 : upd H12 p13 (.lst [V.int (m / 6 % 7), .int (cs.length : Int), .int (wordN (m / 6) 64)]) p13 = some (.lst [V.int (m / 6 % 7), .int (cs.length : Int), .int (wordN (m / 6) 64)]) := upd_same
    generalize upd H12 p13 (.lst [V.int (m / 6 % 7), .int (cs.length : Int), .int (wordN (m / 6) 64)]) = H13 at e13 g13 ⊢
    walk_at "zz"
    refine z_ixL (sq_of g13) hk ?_
    have g11b := e13 _ _ (e12 _ _ g11)
    have z13 := z10.trans (e11.trans (e12.trans e13))
    walk_at "zz"
    refine ⟨p11, _, rfl, .inl ⟨sq_of g11b, fun p14 hp14 => ?_⟩⟩
    have e14 := Ex.new (o := .tup (cs.map vi)) hp14
    have g14 : upd H13 p14 (.tup (cs.map vi)) p14 = some (.tup (cs.map vi)) := upd_same
    generalize upd H13 p14 (.tup (cs.map vi)) = H14 at e14 g14 ⊢
    walk_at "zz"
    refine ⟨szl (by simp), fun p15 hp15 => ?_⟩
    have e15 := Ex.new (o := .lst [.ref p11, .ref p14]) hp15
    have g15 : upd H14 p15 (.lst [.ref p11, .ref p14]) p15 = some (.lst [.ref p11, .ref p14]) := upd_same
    generalize upd H14 p15 (.lst [.ref p11, .ref p14]) = H15 at e15 g15 ⊢
    have g11c := e15 _ _ (e14 _ _ g11b)
    obtain ⟨ca, bb, hca, hS⟩ : ∃ ca bb, atI [V.ref p11, .ref p14] (m % 2) = some (.ref ca) ∧ SqS bb K H15 ca (cs.map vi) := by
      rcases (by omega : m % 2 = 0 ∨ m % 2 = 1) with h | h
      · rw [h]
        exact ⟨p11, false, rfl, sq_of g11c⟩
      · rw [h]
        exact ⟨p14, true, rfl, st_of (e15 _ _ g14)⟩
    walk_at "zz"
    refine z_ixL (sq_of g15) hca ?_
    walk_at "zz"
    refine ⟨ca, bb, cs, k, rfl, hS, fun H16 e16 => ?_⟩
    walk_at "zz"
    refine ⟨szl (by simp), fun p17 hp17 => ?_⟩
    have e17 := Ex.new (o := .lst [.int 0]) hp17
    have g17 : upd H16 p17 (.lst [.int 0]) p17 = some (.lst [.int 0]) := upd_same
    generalize upd H16 p17 (.lst [.int 0]) = H17 at e17 g17 ⊢
    have g11d := e17 _ _ (e16 _ _ g11c)
    walk_at "zz"
    refine z_cat g11d g17 (szl (by simp; omega)) fun p18 hp18 => ?_
    have e18 := Ex.new (o := .lst (cs.map vi ++ [.int 0])) hp18
    have g18 : upd H17 p18 (.lst (cs.map vi ++ [.int 0])) p18 = some (.lst (cs.map vi ++ [.int 0])) := upd_same
    generalize upd H17 p18 (.lst (cs.map vi ++ [.int 0])) = H18 at e18 g18 ⊢
    walk_at "zz"
    refine z_lenL (sq_of (e18 _ _ g11d)) ?_
    rw [List.length_map]
    walk_at "zz"
    refine z_ixL (sq_of g18) (min_at cs k) ?_
    walk_at "zz"
    generalize natAt cs k = wo
    have hwd : decide (vi wo = vi wo) = true := decide_eq_true rfl
    rw [hwd]
    walk_at "zz"
    refine ite_f ?_
    walk_at "zz"
    exact ⟨_, _, _, _, _, _, rfl, z13.trans (e14.trans (e15.trans (e16.trans (e17.trans e18))))⟩
  rintro σ' H7 ⟨y5', y6', y7', y8', y9', y10', rfl, e7⟩
  walk_at "zz"
  exact q.go (x5.trans e7)
end

end K22
namespace K22
open PySem PySem.Spec PyProof.Rows L2 Z
open Evl (Ex ex_l ex_t sq_of st_of fresh_back RetL RetV)

def topS (i : Nat) : Stmt := PySem.Challenge.pw_wireyard_k22_rows_of_nets.main.body.getD i (.Pass ⟨0, 0, 0, 0⟩)
abbrev s_L_mixed : Stmt := topS 14
theorem sc_L_mixed : FnScope ["_law_number", "_law_k"] ["_law_number", "_law_k"] (defScope s_L_mixed) := ⟨rfl, rfl, rfl, by decide +kernel, rfl, by decide +kernel, by decide +kernel⟩
abbrev s_L_names : Stmt := topS 17
theorem sc_L_names : FnScope ["_law_number", "_law_letters", "_law_word_here", "_law_size", "_law_at", "_law_signs", "_law_some", "_law_found", "_law_spot", "_law_other", "_law_told", "_law_j", "_law_k", "_law_sign", "_law_name"] ["_law_number"] (defScope s_L_names) := ⟨rfl, rfl, rfl, by decide +kernel, rfl, by decide +kernel, by decide +kernel⟩
abbrev s_L_cell : Stmt := topS 13
theorem sc_L_cell : FnScope ["_law_script", "_law_k", "_law_cell_here"] ["_law_script", "_law_k"] (defScope s_L_cell) := ⟨rfl, rfl, rfl, by decide +kernel, rfl, by decide +kernel, by decide +kernel⟩
abbrev s_L_next : Stmt := topS 15
theorem sc_L_next : FnScope ["_law_draw"] ["_law_draw"] (defScope s_L_next) := ⟨rfl, rfl, rfl, by decide +kernel, rfl, by decide +kernel, by decide +kernel⟩
abbrev s_L_word : Stmt := topS 16
theorem sc_L_word : FnScope ["_law_number", "_law_width", "_law_top", "_law_some", "_law_k"] ["_law_number", "_law_width"] (defScope s_L_word) := ⟨rfl, rfl, rfl, by decide +kernel, rfl, by decide +kernel, by decide +kernel⟩
abbrev s_L_ends : Stmt := topS 19
theorem sc_L_ends : FnScope ["_law_draw", "_law_names_here", "_law_number", "_law_wide", "_law_world", "_law_k", "_law_width", "_law_size", "_law_j"] ["_law_draw", "_law_names_here"] (defScope s_L_ends) := ⟨rfl, rfl, rfl, by decide +kernel, rfl, by decide +kernel, by decide +kernel⟩
abbrev s_L_leaves : Stmt := topS 18
theorem sc_L_leaves : FnScope ["_law_draw", "_law_world", "_law_width", "_law_k", "_law_door", "_law_rest"] ["_law_draw", "_law_world"] (defScope s_L_leaves) := ⟨rfl, rfl, rfl, by decide +kernel, rfl, by decide +kernel, by decide +kernel⟩
abbrev s_L_of_width : Stmt := topS 20
theorem sc_L_of_width : FnScope ["_law_rows", "_law_width", "_law_number", "_law_some", "_law_k", "_law_row"] ["_law_rows", "_law_width", "_law_number"] (defScope s_L_of_width) := ⟨rfl, rfl, rfl, by decide +kernel, rfl, by decide +kernel, by decide +kernel⟩
abbrev s_L_parted : Stmt := topS 21
theorem sc_L_parted : FnScope ["_law_rows", "_law_one", "_law_way", "_law_more_here", "_law_wide", "_law_width", "_law_other"] ["_law_rows", "_law_one", "_law_way", "_law_more_here"] (defScope s_L_parted) := ⟨rfl, rfl, rfl, by decide +kernel, rfl, by decide +kernel, by decide +kernel⟩
abbrev s_L_more : Stmt := topS 22
theorem sc_L_more : FnScope ["_law_world", "_law_number", "_law_rows", "_law_way", "_law_more_here", "_law_one", "_law_wide", "_law_other", "_law_sign", "_law_lamps", "_law_k", "_law_row"] ["_law_world", "_law_number"] (defScope s_L_more) := ⟨rfl, rfl, rfl, by decide +kernel, rfl, by decide +kernel, by decide +kernel⟩
abbrev s_L_net : Stmt := topS 23
theorem sc_L_net : FnScope ["_law_script", "_law_draw", "_law_names_here", "_law_world", "_law_rows", "_law_cell_here", "_law_rests", "_law_memories", "_law_memory", "_law_place", "_law_value", "_law_number", "_law_outs", "_law_tables", "_law_rest", "_law_k", "_law_table"] ["_law_script"] (defScope s_L_net) := ⟨rfl, rfl, rfl, by decide +kernel, rfl, by decide +kernel, by decide +kernel⟩
abbrev s_L_asked : Stmt := topS 25
theorem sc_L_asked : FnScope ["_law_row", "_law_places"] ["_law_row"] (defScope s_L_asked) := ⟨rfl, rfl, rfl, by decide +kernel, rfl, by decide +kernel, by decide +kernel⟩
abbrev s_asked_by : Stmt := topS 8
theorem sc_asked_by : FnScope ["row", "at"] ["row"] (defScope s_asked_by) := ⟨rfl, rfl, rfl, by decide +kernel, rfl, by decide +kernel, by decide +kernel⟩
abbrev s_led_to : Stmt := topS 9
theorem sc_led_to : FnScope ["row", "numbers", "places", "led", "at", "number"] ["row", "numbers"] (defScope s_led_to) := ⟨rfl, rfl, rfl, by decide +kernel, rfl, by decide +kernel, by decide +kernel⟩
abbrev s_L_right : Stmt := topS 26
theorem sc_L_right : FnScope ["_law_net_here", "_law_row", "_law_number", "_law_places", "_law_found", "_law_others", "_law_due", "_law_place", "_law_other", "_law_handed", "_law_k"] ["_law_net_here", "_law_row", "_law_number"] (defScope s_L_right) := ⟨rfl, rfl, rfl, by decide +kernel, rfl, by decide +kernel, by decide +kernel⟩
abbrev s_top_of : Stmt := topS 1
theorem sc_top_of : FnScope ["width"] ["width"] (defScope s_top_of) := ⟨rfl, rfl, rfl, by decide +kernel, rfl, by decide +kernel, by decide +kernel⟩
abbrev s_turned : Stmt := topS 2
theorem sc_turned : FnScope ["word", "width"] ["word", "width"] (defScope s_turned) := ⟨rfl, rfl, rfl, by decide +kernel, rfl, by decide +kernel, by decide +kernel⟩
abbrev s_two_words : Stmt := topS 3
theorem sc_two_words : FnScope ["sign", "one", "other", "width"] ["sign", "one", "other", "width"] (defScope s_two_words) := ⟨rfl, rfl, rfl, by decide +kernel, rfl, by decide +kernel, by decide +kernel⟩
abbrev s_cut_word : Stmt := topS 4
theorem sc_cut_word : FnScope ["word", "low", "many"] ["word", "low", "many"] (defScope s_cut_word) := ⟨rfl, rfl, rfl, by decide +kernel, rfl, by decide +kernel, by decide +kernel⟩
abbrev s_joined_words : Stmt := topS 5
theorem sc_joined_words : FnScope ["high", "low", "many"] ["high", "low", "many"] (defScope s_joined_words) := ⟨rfl, rfl, rfl, by decide +kernel, rfl, by decide +kernel, by decide +kernel⟩
abbrev s_cell_at : Stmt := topS 10
theorem sc_cell_at : FnScope ["cells", "at"] ["cells", "at"] (defScope s_cell_at) := ⟨rfl, rfl, rfl, by decide +kernel, rfl, by decide +kernel, by decide +kernel⟩
abbrev s_worth_of : Stmt := topS 11
theorem sc_worth_of : FnScope ["row", "words", "rows", "tables", "kind", "width", "asked", "number"] ["row", "words", "rows", "tables"] (defScope s_worth_of) := ⟨rfl, rfl, rfl, by decide +kernel, rfl, by decide +kernel, by decide +kernel⟩
abbrev s_L_worth : Stmt := topS 24
theorem sc_L_worth : FnScope ["_law_row", "_law_words", "_law_rows", "_law_tables", "_law_kind", "_law_top", "_law_one", "_law_other", "_law_some", "_law_place"] ["_law_row", "_law_words", "_law_rows", "_law_tables"] (defScope s_L_worth) := ⟨rfl, rfl, rfl, by decide +kernel, rfl, by decide +kernel, by decide +kernel⟩
abbrev s_law : Stmt := topS 27
theorem sc_law : FnScope ["_law_script", "_law_net_here", "_law_rows", "_law_words", "_law_told", "_law_k", "_law_row", "_law_number", "_law_found", "_law_cells", "_law_at", "_law_word_here", "_law_j"] ["_law_script"] (defScope s_law) := ⟨rfl, rfl, rfl, by decide +kernel, rfl, by decide +kernel, by decide +kernel⟩
structure Tx (w : World) (K : PySem.W.Frag) (mg : Str → Option Value) : Prop where
  d_L_mixed : DX K mg "_law_mixed" s_L_mixed
  d_L_names : DX K mg "_law_names" s_L_names
  d_L_cell : DX K mg "_law_cell" s_L_cell
  d_L_next : DX K mg "_law_next" s_L_next
  d_L_word : DX K mg "_law_word" s_L_word
  d_L_ends : DX K mg "_law_ends" s_L_ends
  d_L_leaves : DX K mg "_law_leaves" s_L_leaves
  d_L_of_width : DX K mg "_law_of_width" s_L_of_width
  d_L_parted : DX K mg "_law_parted" s_L_parted
  d_L_more : DX K mg "_law_more" s_L_more
  d_L_net : DX K mg "_law_net" s_L_net
  d_L_asked : DX K mg "_law_asked" s_L_asked
  d_asked_by : DX K mg "asked_by" s_asked_by
  d_led_to : DX K mg "led_to" s_led_to
  d_L_right : DX K mg "_law_right" s_L_right
  d_top_of : DX K mg "top_of" s_top_of
  d_turned : DX K mg "turned" s_turned
  d_two_words : DX K mg "two_words" s_two_words
  d_cut_word : DX K mg "cut_word" s_cut_word
  d_joined_words : DX K mg "joined_words" s_joined_words
  d_cell_at : DX K mg "cell_at" s_cell_at
  d_worth_of : DX K mg "worth_of" s_worth_of
  d_L_worth : DX K mg "_law_worth" s_L_worth
  d_law : DX K mg "law" s_law
  n_bool : mg "bool" = none
  n_dict : mg "dict" = none
  n_enumerate : mg "enumerate" = none
  n_int : mg "int" = none
  n_isinstance : mg "isinstance" = none
  n_len : mg "len" = none
  n_list : mg "list" = none
  n_min : mg "min" = none
  n_range : mg "range" = none
  n_tuple : mg "tuple" = none
  n_zip : mg "zip" = none
  c_ASKED_AT : ∃ u, mg "ASKED_AT" = some u ∧ RelV (.ref (He.ga K "ASKED_AT")) u
  t_ASKED_AT : TabK K w (He.ga K "ASKED_AT") tab_ASKED_AT
section
variable {P : Program} {w : World} {K : PySem.W.Frag} {mg : Str → Option Value} {base : Heap}
theorem ok_L_mixed (T : Tx w K mg) : Cal P w K mg base 1 "_law_mixed" sp_L_mixed :=
  cal_mk (t := rd_L_mixed) T.d_L_mixed sc_L_mixed (fun _ _ _ _ _ _ us hl => match us, hl with | [_, _], _ => rfl) len_L_mixed
    (fun f cdv A outer s H E hr => (pss_one (ps_ret (pe_op op_fdiv (pe_op op_mod (pe_op op_mul (pe_op op_mod (pe_op op_mul (pe_op op_add (pe_op op_add (pe_op op_add (pv 0) (pe_op op_mul (pe_op op_mul pe_int (pv 1)) (pv 1))) (pe_op op_mul pe_int (pv 1))) pe_int) pe_int) pe_int) pe_int) pe_int) pe_int))))
    (fun vs H Q E h => vr_L_mixed vs H Q E h)
theorem ok_L_names (T : Tx w K mg) : Cal P w K mg base 2 "_law_names" (sp_L_names K) :=
  cal_mk (t := (rd_L_names K)) T.d_L_names sc_L_names (fun _ _ _ _ _ _ us hl => match us, hl with | [_], _ => rfl) len_L_names
    (fun f cdv A outer s H E hr => (pss_cons (ps_set (i := 1) sc_L_names.nd rfl (.inr rfl) pe_str)
    (pss_cons (ps_set (i := 2) sc_L_names.nd rfl (.inr rfl) (pe_bm PySem.F.plainAttrs_str PySem.F.slot_str_join PySem.F.type_str_join mt_join pe_str (pa_cons (pe_lc (own := [("_law_j", 11)]) (g := (gName 11)) (tt := tYes) rfl sc_L_names.nd (pi_range1 (by rfl) T.n_range (pa_cons pe_int pa_nil)) (blkOk_by (N := ["_law_number", "_law_letters", "_law_word_here", "_law_size", "_law_at", "_law_signs", "_law_some", "_law_found", "_law_spot", "_law_other", "_law_told", "_law_j", "_law_k", "_law_sign", "_law_name"]) (sc := defScope s_L_names) (by decide +kernel)) (fun _ _ _ _ _ => (pg_name (i := 11) sc_L_names.nd rfl (.inl rfl))) (fun _ _ _ _ _ => pts_nil) (fun _ _ _ _ _ => (pe_ix ix_str (pv 1) (pe_op op_mod (pe_c (ok_L_mixed T) hr (by decide) (by rfl) (pa_cons (pv 0) (pa_cons (pv 11) pa_nil))) pe_int) (fun _ _ => rfl)))) pa_nil)))
    (Evl.pss_cut (ps_if (pt_cmpR op_lt (pe_op op_mod (pv 0) pe_int) pe_int (nomark _)) (pss_cons (ps_set (i := 3) sc_L_names.nd rfl (.inr rfl) (pe_op op_add pe_int (pe_op op_mod (pe_op op_fdiv (pv 0) pe_int) pe_int)))
    (pss_cons (ps_set (i := 4) sc_L_names.nd rfl (.inr rfl) (pe_op op_mod (pe_op op_fdiv (pv 0) pe_int) (pv 3)))
    (Evl.pss_cut (ps_set (i := 5) sc_L_names.nd rfl (.inr rfl) (pe_ifExp (pt_cmpR op_eq (pv 4) pe_int (nomark _)) (pv 1) (pe_op op_add_str (pv 1) pe_str)))
    (pss_cons (ps_setLc (i := 6) (own := [("_law_k", 12)]) (g := (gName 12)) (tt := tYes) rfl sc_L_names.nd rfl rfl (sw_true rfl rfl rfl (by decide +kernel)) (pi_range1 (by rfl) T.n_range (pa_cons pe_int pa_nil)) (blkOk_by (N := ["_law_number", "_law_letters", "_law_word_here", "_law_size", "_law_at", "_law_signs", "_law_some", "_law_found", "_law_spot", "_law_other", "_law_told", "_law_j", "_law_k", "_law_sign", "_law_name"]) (sc := defScope s_L_names) (by decide +kernel)) (fun _ _ _ _ _ => (pg_name (i := 12) sc_L_names.nd rfl (.inl rfl))) (fun _ _ _ _ _ => pts_nil) (fun _ _ _ _ _ => (pe_ix ix_str (pv 5) (pe_op op_mod (pe_op op_add (pe_op op_fdiv (pv 0) pe_int) (pe_op op_mul pe_int (pv 12))) (pe_callB call_len_str (by rfl) T.n_len (by decide +kernel) (pa_cons (pv 5) pa_nil))) (fun _ _ => rfl))))
    (pss_one (ps_setLc (i := 7) (own := [("_law_sign", 13)]) (g := (gName 13)) (tt := tYes) rfl sc_L_names.nd rfl rfl (sw_true rfl rfl rfl (by decide +kernel)) (pi_list (pv 6)) (blkOk_by (N := ["_law_number", "_law_letters", "_law_word_here", "_law_size", "_law_at", "_law_signs", "_law_some", "_law_found", "_law_spot", "_law_other", "_law_told", "_law_j", "_law_k", "_law_sign", "_law_name"]) (sc := defScope s_L_names) (by decide +kernel)) (fun _ _ _ _ _ => (pg_name (i := 13) sc_L_names.nd rfl (.inl rfl))) (fun _ _ _ _ _ => pts_nil) (fun _ _ _ _ _ => (pe_op op_add_str (pe_op op_add_str (pe_slice sl_str (pv 2) po_none (po_some (pv 4))) (pv 13)) (pe_slice sl_str (pv 2) (po_some (pe_op op_add (pv 4) pe_int)) (po_some (pv 3)))))))))))
    (pss_one (ps_if (pt_cmpR op_eq (pe_op op_mod (pv 0) pe_int) pe_int (nomark _)) (pss_cons (ps_set (i := 8) sc_L_names.nd rfl (.inl rfl) (pe_op op_add (pe_op op_add (pe_bm PySem.F.plainAttrs_str PySem.F.slot_str_index PySem.F.type_str_index mt_sindex (pv 1) (pa_cons (pe_ix ix_str (pv 2) pe_int (fun _ _ => rfl)) pa_nil)) pe_int) (pe_op op_mod (pe_op op_fdiv (pv 0) pe_int) pe_int)))
    (pss_cons (ps_set (i := 9) sc_L_names.nd rfl (.inr rfl) (pe_op op_add_str (pe_ix ix_str (pv 1) (pe_op op_mod (pv 8) pe_int) (fun _ _ => rfl)) (pe_slice sl_str (pv 2) (po_some pe_int) po_none)))
    (pss_cons (ps_setLc (i := 7) (own := [("_law_k", 12)]) (g := (gName 12)) (tt := tYes) rfl sc_L_names.nd rfl rfl (sw_true rfl rfl rfl (by decide +kernel)) (pi_range1 (by rfl) T.n_range (pa_cons pe_int pa_nil)) (blkOk_by (N := ["_law_number", "_law_letters", "_law_word_here", "_law_size", "_law_at", "_law_signs", "_law_some", "_law_found", "_law_spot", "_law_other", "_law_told", "_law_j", "_law_k", "_law_sign", "_law_name"]) (sc := defScope s_L_names) (by decide +kernel)) (fun _ _ _ _ _ => (pg_name (i := 12) sc_L_names.nd rfl (.inl rfl))) (fun _ _ _ _ _ => pts_nil) (fun _ _ _ _ _ => (pe_slice sl_str (pv 2) po_none (po_some (pe_op op_add (pv 12) pe_int)))))
    (pss_one (ps_set (i := 7) sc_L_names.nd rfl (.inl rfl) (pe_op op_cat (pv 7) (pe_lc (own := [("_law_k", 12)]) (g := (gName 12)) (tt := tYes) rfl sc_L_names.nd (pi_range1 (by rfl) T.n_range (pa_cons pe_int pa_nil)) (blkOk_by (N := ["_law_number", "_law_letters", "_law_word_here", "_law_size", "_law_at", "_law_signs", "_law_some", "_law_found", "_law_spot", "_law_other", "_law_told", "_law_j", "_law_k", "_law_sign", "_law_name"]) (sc := defScope s_L_names) (by decide +kernel)) (fun _ _ _ _ _ => (pg_name (i := 12) sc_L_names.nd rfl (.inl rfl))) (fun _ _ _ _ _ => pts_nil) (fun _ _ _ _ _ => (pe_slice sl_str (pv 9) po_none (po_some (pe_op op_add (pv 12) pe_int)))))))))))
    (pss_one (ps_setLc (i := 7) (own := [("_law_k", 12)]) (g := (gName 12)) (tt := tYes) rfl sc_L_names.nd rfl rfl (sw_true rfl rfl rfl (by decide +kernel)) (pi_range1 (by rfl) T.n_range (pa_cons pe_int pa_nil)) (blkOk_by (N := ["_law_number", "_law_letters", "_law_word_here", "_law_size", "_law_at", "_law_signs", "_law_some", "_law_found", "_law_spot", "_law_other", "_law_told", "_law_j", "_law_k", "_law_sign", "_law_name"]) (sc := defScope s_L_names) (by decide +kernel)) (fun _ _ _ _ _ => (pg_name (i := 12) sc_L_names.nd rfl (.inl rfl))) (fun _ _ _ _ _ => pts_nil) (fun _ _ _ _ _ => (pe_ix ix_str (pv 1) (pe_op op_mod (pe_op op_add (pe_op op_fdiv (pv 0) pe_int) (pe_op op_mul pe_int (pv 12))) pe_int) (fun _ _ => rfl))))))))
    (pss_cons (ps_set (i := 10) sc_L_names.nd rfl (.inr rfl) (pe_bm PySem.F.plainAttrs_str PySem.F.slot_str_split PySem.F.type_str_split mt_split pe_str (pa_cons pe_str pa_nil)))
    (pss_cons (ps_if (pt_cmpR (op_neD (hu64 hr)) (pe_lc (own := [("_law_name", 14)]) (g := (gName 14)) (tt := (tTest (tOp (rIn K false) (tVar 14) (tVar 10)))) rfl sc_L_names.nd (pi_list (pv 7)) (blkOk_by (N := ["_law_number", "_law_letters", "_law_word_here", "_law_size", "_law_at", "_law_signs", "_law_some", "_law_found", "_law_spot", "_law_other", "_law_told", "_law_j", "_law_k", "_law_sign", "_law_name"]) (sc := defScope s_L_names) (by decide +kernel)) (fun _ _ _ _ _ => (pg_name (i := 14) sc_L_names.nd rfl (.inl rfl))) (fun _ _ _ _ _ => (pts_one (pt_cmpR op_in_seq (pv 14) (pv 10) (by with_unfolding_all rfl)))) (fun _ _ _ _ _ => (pv 14))) (pe_lst pa_nil) (nomark _)) (pss_one (ps_ret (pe_lc (own := [("_law_k", 12)]) (g := (gName 12)) (tt := tYes) rfl sc_L_names.nd (pi_range1 (by rfl) T.n_range (pa_cons pe_int pa_nil)) (blkOk_by (N := ["_law_number", "_law_letters", "_law_word_here", "_law_size", "_law_at", "_law_signs", "_law_some", "_law_found", "_law_spot", "_law_other", "_law_told", "_law_j", "_law_k", "_law_sign", "_law_name"]) (sc := defScope s_L_names) (by decide +kernel)) (fun _ _ _ _ _ => (pg_name (i := 12) sc_L_names.nd rfl (.inl rfl))) (fun _ _ _ _ _ => pts_nil) (fun _ _ _ _ _ => (pe_op op_add_str pe_str (pe_ix ix_str (pv 1) (pv 12) (fun _ _ => rfl)))))))
    pss_nil)
    (pss_one (ps_ret (pv 7)))))))))
    (fun vs H Q E h => vr_L_names vs H Q E h)
theorem ok_L_cell (T : Tx w K mg) : Cal P w K mg base 1 "_law_cell" (sp_L_cell K) :=
  cal_mk (t := (rd_L_cell K)) T.d_L_cell sc_L_cell (fun _ _ _ _ _ _ us hl => match us, hl with | [_, _], _ => rfl) len_L_cell
    (fun f cdv A outer s H E hr => (pss_cons (ps_set (i := 2) sc_L_cell.nd rfl (.inl rfl) pe_int)
    (pss_cons (ps_if (pt_cmpR op_gt (pe_callB call_len_seq (by rfl) T.n_len (by decide +kernel) (pa_cons (pv 0) pa_nil)) pe_int (nomark _)) (pss_one (ps_set (i := 2) sc_L_cell.nd rfl (.inl rfl) (pe_op op_mod (pe_ix ix_list (pv 0) (pe_op op_mod (pv 1) (pe_callB call_len_seq (by rfl) T.n_len (by decide +kernel) (pa_cons (pv 0) pa_nil))) (fun _ _ => rfl)) pe_int)))
    pss_nil)
    (pss_one (ps_ret (pe_op op_fdiv (pe_op op_mod (pe_op op_mul (pe_op op_mod (pe_op op_mul (pe_op op_add (pe_op op_add (pv 2) (pe_op op_mul (pe_op op_mul pe_int (pv 1)) (pv 1))) (pe_op op_mul pe_int (pv 1))) pe_int) pe_int) pe_int) pe_int) pe_int))))))
    (fun vs H Q E h => vr_L_cell vs H Q E h)
theorem ok_L_next (T : Tx w K mg) : Cal P w K mg base 2 "_law_next" (sp_L_next K) :=
  cal_mk (t := (rd_L_next K)) T.d_L_next sc_L_next (fun _ _ _ _ _ _ us hl => match us, hl with | [_], _ => rfl) len_L_next
    (fun f cdv A outer s H E hr => (pss_cons (ps_asg (pe_op op_add (pe_ix ix_list (pv 0) pe_int (fun _ _ => rfl)) pe_int) (pg_sub (pv 0) pe_int set_list))
    (pss_one (ps_ret (pe_c (ok_L_cell T) hr (by decide) (by rfl) (pa_cons (pe_ix ix_list (pv 0) pe_int (fun _ _ => rfl)) (pa_cons (pe_ix ix_list (pv 0) pe_int (fun _ _ => rfl)) pa_nil)))))))
    (fun vs H Q E h => vr_L_next vs H Q E h)
theorem ok_L_word (T : Tx w K mg) : Cal P w K mg base 2 "_law_word" sp_L_word :=
  cal_mk (t := (rd_L_word K)) T.d_L_word sc_L_word (fun _ _ _ _ _ _ us hl => match us, hl with | [_, _], _ => rfl) len_L_word
    (fun f cdv A outer s H E hr => (pss_cons (ps_set (i := 2) sc_L_word.nd rfl (.inl rfl) (pe_op op_sub (pe_op op_shlW pe_int (pv 1)) pe_int))
    (pss_cons (ps_set (i := 3) sc_L_word.nd rfl (.inl rfl) pe_int)
    (pss_cons (ps_for PassesOwn.never rfl (pi_range1 (by rfl) T.n_range (pa_cons pe_int pa_nil)) (pg_name (i := 4) sc_L_word.nd rfl (.inl rfl)) (pss_one (ps_set (i := 3) sc_L_word.nd rfl (.inl rfl) (pe_op op_or (pe_op op_shlW (pv 3) pe_int) (pe_c (ok_L_mixed T) hr (by decide) (by rfl) (pa_cons (pv 0) (pa_cons (pv 4) pa_nil)))))))
    (pss_one (ps_ret (pe_ix ix_list (pe_lst (pa_cons pe_int (pa_cons (pv 2) (pa_cons (pe_op op_and (pv 3) (pv 2)) (pa_cons pe_int (pa_cons (pe_op op_and (pv 3) (pv 2)) (pa_cons (pe_op op_sub (pv 2) pe_int) (pa_cons (pe_op op_and (pv 3) (pv 2)) (pa_cons (pe_op op_and (pe_op op_mod (pv 3) pe_int) (pv 2)) pa_nil))))))))) (pe_op op_mod (pv 0) pe_int) (fun _ _ => rfl))))))))
    (fun vs H Q E h => vr_L_word vs H Q E h)
theorem ok_L_ends (T : Tx w K mg) : Cal P w K mg base 3 "_law_ends" (sp_L_ends K) :=
  cal_mk (t := (rd_L_ends K)) T.d_L_ends sc_L_ends (fun _ _ _ _ _ _ us hl => match us, hl with | [_, _], _ => rfl) len_L_ends
    (fun f cdv A outer s H E hr => (pss_cons (ps_set (i := 2) sc_L_ends.nd rfl (.inl rfl) (pe_c (ok_L_next T) hr (by decide) (by rfl) (pa_cons (pv 0) pa_nil)))
    (pss_cons (ps_setLc (i := 3) (own := [("_law_k", 5)]) (g := (gName 5)) (tt := tYes) rfl sc_L_ends.nd rfl rfl (sw_true rfl rfl rfl (by decide +kernel)) (pi_range1 (by rfl) T.n_range (pa_cons pe_int pa_nil)) (blkOk_by (N := ["_law_draw", "_law_names_here", "_law_number", "_law_wide", "_law_world", "_law_k", "_law_width", "_law_size", "_law_j"]) (sc := defScope s_L_ends) (by decide +kernel)) (fun _ _ _ _ _ => (pg_name (i := 5) sc_L_ends.nd rfl (.inl rfl))) (fun _ _ _ _ _ => pts_nil) (fun _ _ _ _ _ => (pe_op op_add pe_int (pe_op op_mod (pe_c (ok_L_next T) hr (by decide) (by rfl) (pa_cons (pv 0) pa_nil)) (pe_ix ix_list (pe_lst (pa_cons pe_int (pa_cons pe_int pa_nil))) (pe_op op_mod (pv 5) pe_int) (fun _ _ => rfl))))))
    (pss_cons (ps_set (i := 4) sc_L_ends.nd rfl (.inl rfl) (pe_disp (pps_cons pe_str (pe_lst pa_nil) (pps_cons pe_str (pv 3) (pps_cons pe_str (pe_lst pa_nil) (pps_cons pe_str (pe_lst pa_nil) (pps_cons pe_str (pe_lst pa_nil) (pps_cons pe_str (pe_lst pa_nil) pps_nil)))))) (by rfl) (by rfl) (fun z => by cases z) (by decide)))
    (pss_cons (ps_for PassesOwn.never rfl (pi_range1 (by rfl) T.n_range (pa_cons (pe_op op_mod (pv 2) pe_int) pa_nil)) (pg_name (i := 5) sc_L_ends.nd rfl (.inl rfl)) (pss_one (ps_expr (pe_bm PySem.F.plainAttrs_list PySem.F.slot_list_append PySem.F.type_list_append mt_append (pe_dget (hu_of hr) (pv 4) pe_str (fun _ _ => rfl)) (pa_cons (pe_tup (pa_cons (pe_ix ix_list (pv 1) (pv 5) (fun _ _ => rfl)) (pa_cons (pe_ix ix_list (pv 3) (pe_op op_mod (pe_c (ok_L_next T) hr (by decide) (by rfl) (pa_cons (pv 0) pa_nil)) pe_int) (fun _ _ => rfl)) pa_nil))) pa_nil)))))
    (pss_cons (ps_for PassesOwn.never rfl (pi_range1 (by rfl) T.n_range (pa_cons (pe_op op_mod (pe_op op_fdiv (pv 2) pe_int) pe_int) pa_nil)) (pg_name (i := 5) sc_L_ends.nd rfl (.inl rfl)) (pss_cons (ps_set (i := 6) sc_L_ends.nd rfl (.inr rfl) (pe_ix ix_list (pv 3) (pe_op op_mod (pe_c (ok_L_next T) hr (by decide) (by rfl) (pa_cons (pv 0) pa_nil)) pe_int) (fun _ _ => rfl)))
    (pss_one (ps_expr (pe_bm PySem.F.plainAttrs_list PySem.F.slot_list_append PySem.F.type_list_append mt_append (pe_dget (hu_of hr) (pv 4) pe_str (fun _ _ => rfl)) (pa_cons (pe_tup (pa_cons (pe_op op_add_str (pe_ix ix_list (pv 1) (pe_op op_add pe_int (pv 5)) (fun _ _ => rfl)) pe_str) (pa_cons (pv 6) (pa_cons (pe_c (ok_L_word T) hr (by decide) (by rfl) (pa_cons (pe_c (ok_L_next T) hr (by decide) (by rfl) (pa_cons (pv 0) pa_nil)) (pa_cons (pv 6) pa_nil))) pa_nil)))) pa_nil))))))
    (pss_cons (ps_for PassesOwn.never rfl (pi_range1 (by rfl) T.n_range (pa_cons (pe_op op_mod (pe_op op_fdiv (pv 2) pe_int) pe_int) pa_nil)) (pg_name (i := 5) sc_L_ends.nd rfl (.inl rfl)) (pss_cons (ps_set (i := 7) sc_L_ends.nd rfl (.inl rfl) (pe_ix ix_list (pe_lst (pa_cons pe_int (pa_cons pe_int (pa_cons pe_int (pa_cons pe_int (pa_cons pe_int pa_nil)))))) (pe_op op_mod (pe_c (ok_L_next T) hr (by decide) (by rfl) (pa_cons (pv 0) pa_nil)) pe_int) (fun _ _ => rfl)))
    (pss_cons (ps_set (i := 6) sc_L_ends.nd rfl (.inr rfl) (pe_ix ix_list (pv 3) (pe_op op_mod (pe_c (ok_L_next T) hr (by decide) (by rfl) (pa_cons (pv 0) pa_nil)) pe_int) (fun _ _ => rfl)))
    (pss_one (ps_expr (pe_bm PySem.F.plainAttrs_list PySem.F.slot_list_append PySem.F.type_list_append mt_append (pe_dget (hu_of hr) (pv 4) pe_str (fun _ _ => rfl)) (pa_cons (pe_tup (pa_cons (pv 6) (pa_cons (pe_callTy call_tuple_of (by rfl) T.n_tuple (by decide +kernel) (pa_cons (pe_lc (own := [("_law_j", 8)]) (g := (gName 8)) (tt := tYes) rfl sc_L_ends.nd (pi_range1 (by rfl) T.n_range (pa_cons (pv 7) pa_nil)) (blkOk_by (N := ["_law_draw", "_law_names_here", "_law_number", "_law_wide", "_law_world", "_law_k", "_law_width", "_law_size", "_law_j"]) (sc := defScope s_L_ends) (by decide +kernel)) (fun _ _ _ _ _ => (pg_name (i := 8) sc_L_ends.nd rfl (.inl rfl))) (fun _ _ _ _ _ => pts_nil) (fun _ _ _ _ _ => (pe_c (ok_L_word T) hr (by decide) (by rfl) (pa_cons (pe_c (ok_L_next T) hr (by decide) (by rfl) (pa_cons (pv 0) pa_nil)) (pa_cons (pv 6) pa_nil))))) pa_nil)) pa_nil))) pa_nil)))))))
    (pss_cons (ps_for PassesOwn.never rfl (pi_range1 (by rfl) T.n_range (pa_cons (pe_op op_mod (pe_op op_fdiv (pv 2) pe_int) pe_int) pa_nil)) (pg_name (i := 5) sc_L_ends.nd rfl (.inl rfl)) (pss_cons (ps_set (i := 7) sc_L_ends.nd rfl (.inl rfl) (pe_ix ix_list (pe_lst (pa_cons pe_int (pa_cons pe_int (pa_cons pe_int (pa_cons pe_int (pa_cons pe_int pa_nil)))))) (pe_op op_mod (pe_c (ok_L_next T) hr (by decide) (by rfl) (pa_cons (pv 0) pa_nil)) pe_int) (fun _ _ => rfl)))
    (pss_one (ps_expr (pe_bm PySem.F.plainAttrs_list PySem.F.slot_list_append PySem.F.type_list_append mt_append (pe_dget (hu_of hr) (pv 4) pe_str (fun _ _ => rfl)) (pa_cons (pe_tup (pa_cons (pe_ix ix_list (pv 1) (pe_op op_add pe_int (pv 5)) (fun _ _ => rfl)) (pa_cons (pe_ix ix_list (pv 3) (pe_op op_mod (pe_c (ok_L_next T) hr (by decide) (by rfl) (pa_cons (pv 0) pa_nil)) pe_int) (fun _ _ => rfl)) (pa_cons (pv 7) pa_nil)))) pa_nil))))))
    (pss_one (ps_ret (pv 4)))))))))))
    (fun vs H Q E h => vr_L_ends vs H Q E h)
theorem ok_L_leaves (T : Tx w K mg) : Cal P w K mg base 3 "_law_leaves" (sp_L_leaves K) :=
  cal_mk (t := (rd_L_leaves K)) T.d_L_leaves sc_L_leaves (fun _ _ _ _ _ _ us hl => match us, hl with | [_, _], _ => rfl) len_L_leaves
    (fun f cdv A outer s H E hr => (pss_cons (ps_for PassesOwn.never rfl (pi_list (pe_op op_cat (pe_lst (pa_cons pe_int pa_nil)) (pe_dget (hu_of hr) (pv 1) pe_str (fun _ _ => rfl)))) (pg_name (i := 2) sc_L_leaves.nd rfl (.inl rfl)) (pss_one (ps_expr (pe_bm PySem.F.plainAttrs_list PySem.F.slot_list_append PySem.F.type_list_append mt_append (pe_dget (hu_of hr) (pv 1) pe_str (fun _ _ => rfl)) (pa_cons (pe_tup (pa_cons pe_str (pa_cons (pv 2) (pa_cons (pe_c (ok_L_word T) hr (by decide) (by rfl) (pa_cons (pe_c (ok_L_next T) hr (by decide) (by rfl) (pa_cons (pv 0) pa_nil)) (pa_cons (pv 2) pa_nil))) pa_nil)))) pa_nil)))))
    (pss_cons (ps_for PassesOwn.never rfl (pi_enum (by rfl) T.n_enumerate (pa_cons (pe_dget (hu_of hr) (pv 1) pe_str (fun _ _ => rfl)) pa_nil)) (pg_tup rfl (pgs_cons (pg_name (i := 3) sc_L_leaves.nd rfl (.inl rfl)) (pgs_cons (pg_name (i := 4) sc_L_leaves.nd rfl (.inl rfl)) pgs_nil))) (pss_one (ps_expr (pe_bm PySem.F.plainAttrs_list PySem.F.slot_list_append PySem.F.type_list_append mt_append (pe_dget (hu_of hr) (pv 1) pe_str (fun _ _ => rfl)) (pa_cons (pe_tup (pa_cons pe_str (pa_cons (pe_ix ix_tup (pv 4) pe_int (fun _ _ => rfl)) (pa_cons (pv 3) pa_nil)))) pa_nil)))))
    (pss_one (ps_for PassesOwn.never rfl (pi_enum (by rfl) T.n_enumerate (pa_cons (pe_dget (hu_of hr) (pv 1) pe_str (fun _ _ => rfl)) pa_nil)) (pg_tup rfl (pgs_cons (pg_name (i := 3) sc_L_leaves.nd rfl (.inl rfl)) (pgs_cons (pg_name (i := 5) sc_L_leaves.nd rfl (.inl rfl)) pgs_nil))) (pss_one (ps_expr (pe_bm PySem.F.plainAttrs_list PySem.F.slot_list_append PySem.F.type_list_append mt_append (pe_dget (hu_of hr) (pv 1) pe_str (fun _ _ => rfl)) (pa_cons (pe_tup (pa_cons pe_str (pa_cons (pe_ix ix_tup (pv 5) pe_int (fun _ _ => rfl)) (pa_cons (pv 3) pa_nil)))) pa_nil)))))))))
    (fun vs H Q E h => vr_L_leaves vs H Q E h)
theorem ok_L_of_width (T : Tx w K mg) : Cal P w K mg base 1 "_law_of_width" (sp_L_of_width K) :=
  cal_mk (t := (rd_L_of_width K)) T.d_L_of_width sc_L_of_width (fun _ _ _ _ _ _ us hl => match us, hl with | [_, _, _], _ => rfl) len_L_of_width
    (fun f cdv A outer s H E hr => (pss_cons (ps_setLc (i := 3) (own := [("_law_k", 4), ("_law_row", 5)]) (g := (gTup K 2 (gCons (gName 4) (gCons (gName 5) gNil)))) (tt := (tTest (tOp rEq (tOp (rIxT K) (tVar 5) (tC (.int 1))) (tVar 1)))) rfl sc_L_of_width.nd rfl rfl (sw_true rfl rfl rfl (by decide +kernel)) (pi_enum (by rfl) T.n_enumerate (pa_cons (pv 0) pa_nil)) (blkOk_by (N := ["_law_rows", "_law_width", "_law_number", "_law_some", "_law_k", "_law_row"]) (sc := defScope s_L_of_width) (by decide +kernel)) (fun _ _ _ _ _ => (pg_tup rfl (pgs_cons (pg_name (i := 4) sc_L_of_width.nd rfl (.inl rfl)) (pgs_cons (pg_name (i := 5) sc_L_of_width.nd rfl (.inl rfl)) pgs_nil)))) (fun _ _ _ _ _ => (pts_one (pt_cmpR op_eq (pe_ix ix_tup (pv 5) pe_int (fun _ _ => rfl)) (pv 1) (nomark _)))) (fun _ _ _ _ _ => (pv 4)))
    (pss_cons (ps_if (pt_cmpR op_eq (pe_op op_mod (pv 2) pe_int) pe_int (nomark _)) (pss_one (ps_set (i := 3) sc_L_of_width.nd rfl (.inl rfl) (pe_slice sl_list (pv 3) (po_some (pe_un un_neg pe_int)) po_none)))
    pss_nil)
    (pss_one (ps_ret (pe_ix ix_list (pv 3) (pe_op op_mod (pe_op op_fdiv (pv 2) pe_int) (pe_callB call_len_seq (by rfl) T.n_len (by decide +kernel) (pa_cons (pv 3) pa_nil))) (fun _ _ => rfl)))))))
    (fun vs H Q E h => vr_L_of_width vs H Q E h)
theorem ok_L_parted (T : Tx w K mg) : Cal P w K mg base 1 "_law_parted" (sp_L_parted K) :=
  cal_mk (t := (rd_L_parted K)) T.d_L_parted sc_L_parted (fun _ _ _ _ _ _ us hl => match us, hl with | [_, _, _, _], _ => rfl) len_L_parted
    (fun f cdv A outer s H E hr => (pss_cons (ps_set (i := 4) sc_L_parted.nd rfl (.inl rfl) (pe_ix ix_tup (pe_ix ix_list (pv 0) (pv 1) (fun _ _ => rfl)) pe_int (fun _ _ => rfl)))
    (pss_cons (ps_if (pt_cmpR op_eq (pv 2) pe_int (nomark _)) (pss_cons (ps_set (i := 5) sc_L_parted.nd rfl (.inl rfl) (pe_op op_add pe_int (pe_op op_mod (pv 3) (pv 4))))
    (pss_one (ps_ret (pe_tup (pa_cons pe_str (pa_cons (pv 5) (pa_cons (pv 1) (pa_cons (pe_op op_mod (pe_op op_fdiv (pv 3) pe_int) (pe_op op_add (pe_op op_sub (pv 4) (pv 5)) pe_int)) pa_nil))))))))
    pss_nil)
    (pss_cons (ps_if (pt_cmpR op_eq (pv 2) pe_int (nomark _)) (pss_one (ps_ret (pe_tup (pa_cons pe_str (pa_cons (pe_callB (call_min2 rfl) (by rfl) T.n_min (by decide +kernel) (pa_cons pe_int (pa_cons (pe_op op_add (pv 4) (pe_op op_mul (pe_op op_mod (pv 3) pe_int) (pe_op op_mod (pe_op op_fdiv (pv 3) pe_int) pe_int))) pa_nil))) (pa_cons (pv 1) pa_nil))))))
    pss_nil)
    (pss_cons (ps_set (i := 6) sc_L_parted.nd rfl (.inl rfl) (pe_op op_mod (pe_op op_fdiv (pv 3) pe_int) (pe_callB call_len_seq (by rfl) T.n_len (by decide +kernel) (pa_cons (pv 0) pa_nil))))
    (pss_cons (ps_if (pt_cmpR op_gt (pe_op op_add (pv 4) (pe_ix ix_tup (pe_ix ix_list (pv 0) (pv 6) (fun _ _ => rfl)) pe_int (fun _ _ => rfl))) pe_int (nomark _)) (pss_one (ps_ret (pe_tup (pa_cons pe_str (pa_cons (pv 4) (pa_cons (pv 1) pa_nil))))))
    pss_nil)
    (pss_one (ps_ret (pe_tup (pa_cons pe_str (pa_cons (pe_op op_add (pv 4) (pe_ix ix_tup (pe_ix ix_list (pv 0) (pv 6) (fun _ _ => rfl)) pe_int (fun _ _ => rfl))) (pa_cons (pv 1) (pa_cons (pv 6) pa_nil)))))))))))))
    (fun vs H Q E h => vr_L_parted vs H Q E h)
theorem ok_L_more (T : Tx w K mg) : Cal P w K mg base 3 "_law_more" (sp_L_more K) :=
  cal_mk (t := (rd_L_more K)) T.d_L_more sc_L_more (fun _ _ _ _ _ _ us hl => match us, hl with | [_, _], _ => rfl) len_L_more
    (fun f cdv A outer s H E hr => (pss_cons (ps_set (i := 2) sc_L_more.nd rfl (.inl rfl) (pe_dget (hu_of hr) (pv 0) pe_str (fun _ _ => rfl)))
    (pss_cons (ps_par rfl sc_L_more.nd rfl rfl (by decide) rfl rfl (pa_cons (pe_op op_mod (pv 1) pe_int) (pa_cons (pe_op op_fdiv (pv 1) pe_int) pa_nil)) (by rfl))
    (Evl.pss_cut (ps_set (i := 5) sc_L_more.nd rfl (.inl rfl) (pe_ifExp (pt_cmpR op_gt (pe_op op_mod (pv 4) pe_int) pe_int (nomark _)) (pe_op op_sub (pe_op op_sub (pe_callB call_len_seq (by rfl) T.n_len (by decide +kernel) (pa_cons (pv 2) pa_nil)) pe_int) (pe_op op_mod (pe_op op_mod (pv 4) pe_int) (pe_callB call_len_seq (by rfl) T.n_len (by decide +kernel) (pa_cons (pv 2) pa_nil)))) (pe_op op_mod (pe_op op_fdiv (pv 4) pe_int) (pe_callB call_len_seq (by rfl) T.n_len (by decide +kernel) (pa_cons (pv 2) pa_nil)))))
    (pss_cons (ps_set (i := 6) sc_L_more.nd rfl (.inl rfl) (pe_ix ix_tup (pe_ix ix_list (pv 2) (pv 5) (fun _ _ => rfl)) pe_int (fun _ _ => rfl)))
    (pss_cons (ps_set (i := 4) sc_L_more.nd rfl (.inl rfl) (pe_op op_fdiv (pv 4) pe_int))
    (pss_cons (ps_if (pt_cmpR op_lt (pv 3) pe_int (nomark _)) (pss_cons (ps_set (i := 7) sc_L_more.nd rfl (.inl rfl) (pe_c (ok_L_of_width T) hr (by decide) (by rfl) (pa_cons (pv 2) (pa_cons (pv 6) (pa_cons (pe_op op_fdiv (pv 4) pe_int) pa_nil)))))
    (pss_cons (ps_set (i := 8) sc_L_more.nd rfl (.inl rfl) (pe_ix ix_list (pe_lst (pa_cons pe_str (pa_cons pe_str (pa_cons pe_str (pa_cons pe_str (pa_cons pe_str (pa_cons pe_str (pa_cons pe_str (pa_cons pe_str pa_nil))))))))) (pe_op op_mod (pv 4) pe_int) (fun _ _ => rfl)))
    (pss_one (ps_ret (pe_tup (pa_cons pe_str (pa_cons (pe_ifExp (pt_cmpR op_in_seq (pv 8) (pe_tup (pa_cons pe_str (pa_cons pe_str pa_nil))) (by with_unfolding_all rfl)) pe_int (pv 6)) (pa_cons (pv 8) (pa_cons (pv 5) (pa_cons (pv 7) pa_nil))))))))))
    pss_nil)
    (pss_cons (ps_if (PW.pt (pw_and (pt_cmpR op_eq (pv 3) pe_int (nomark _)) (pw_and1 (pt_cmpR op_eq (pe_op op_mod (pv 4) pe_int) pe_int (nomark _))))) (pss_one (ps_ret (pe_tup (pa_cons pe_str (pa_cons pe_int (pa_cons (pe_c (ok_L_of_width T) hr (by decide) (by rfl) (pa_cons (pv 2) (pa_cons pe_int (pa_cons (pe_op op_fdiv (pv 4) pe_int) pa_nil)))) pa_nil))))))
    pss_nil)
    (pss_cons (ps_if (pt_cmpR op_eq (pv 3) pe_int (nomark _)) (pss_one (ps_ret (pe_tup (pa_cons pe_str (pa_cons (pv 6) (pa_cons (pv 5) pa_nil))))))
    pss_nil)
    (pss_cons (ps_if (pt_cmpR op_eq (pv 3) pe_int (nomark _)) (pss_cons (ps_setLc (i := 9) (own := [("_law_k", 10), ("_law_row", 11)]) (g := (gTup K 2 (gCons (gName 10) (gCons (gName 11) gNil)))) (tt := (tAnd (tTest (tOp rEq (tOp (rIxT K) (tVar 11) (tC (.int 1))) (tC (.int 1)))) (tTest (tOp rEq (tOp (rIxT K) (tVar 11) (tC (.int 0))) (tC (.str "not")))))) rfl sc_L_more.nd rfl rfl (sw_true rfl rfl rfl (by decide +kernel)) (pi_enum (by rfl) T.n_enumerate (pa_cons (pv 2) pa_nil)) (blkOk_by (N := ["_law_world", "_law_number", "_law_rows", "_law_way", "_law_more_here", "_law_one", "_law_wide", "_law_other", "_law_sign", "_law_lamps", "_law_k", "_law_row"]) (sc := defScope s_L_more) (by decide +kernel)) (fun _ _ _ _ _ => (pg_tup rfl (pgs_cons (pg_name (i := 10) sc_L_more.nd rfl (.inl rfl)) (pgs_cons (pg_name (i := 11) sc_L_more.nd rfl (.inl rfl)) pgs_nil)))) (fun _ _ _ _ _ => (pts_one (PW.pt (pw_and (pt_cmpR op_eq (pe_ix ix_tup (pv 11) pe_int (fun _ _ => rfl)) pe_int (nomark _)) (pw_and1 (pt_cmpR op_eq (pe_ix ix_tup (pv 11) pe_int (fun _ _ => rfl)) pe_str (nomark _))))))) (fun _ _ _ _ _ => (pv 10)))
    (Evl.pss_cut (ps_if (PW.pt (pw_or (pt_cmpR (op_eqD (hu64 hr)) (pv 9) (pe_lst pa_nil) (nomark _)) (pw_or1 (pt_cmpR op_gt (pe_op op_mod (pv 4) pe_int) pe_int (nomark _))))) (pss_one (ps_set (i := 9) sc_L_more.nd rfl (.inl rfl) (pe_lst (pa_cons (pe_c (ok_L_of_width T) hr (by decide) (by rfl) (pa_cons (pv 2) (pa_cons pe_int (pa_cons (pv 4) pa_nil)))) pa_nil))))
    pss_nil)
    (pss_cons (ps_set (i := 7) sc_L_more.nd rfl (.inl rfl) (pe_c (ok_L_of_width T) hr (by decide) (by rfl) (pa_cons (pv 2) (pa_cons (pv 6) (pa_cons (pe_op op_fdiv (pv 4) pe_int) pa_nil)))))
    (pss_one (ps_ret (pe_tup (pa_cons pe_str (pa_cons (pv 6) (pa_cons (pe_ix ix_list (pv 9) (pe_op op_mod (pe_op op_fdiv (pv 4) pe_int) (pe_callB call_len_seq (by rfl) T.n_len (by decide +kernel) (pa_cons (pv 9) pa_nil))) (fun _ _ => rfl)) (pa_cons (pv 5) (pa_cons (pv 7) pa_nil)))))))))))
    pss_nil)
    (pss_cons (ps_if (PW.pt (pw_and (pt_cmpR op_eq (pv 3) pe_int (nomark _)) (pw_and1 (pt_cmpR (op_neD (hu64 hr)) (pe_dget (hu_of hr) (pv 0) pe_str (fun _ _ => rfl)) (pe_lst pa_nil) (nomark _))))) (pss_cons (ps_set (i := 10) sc_L_more.nd rfl (.inl rfl) (pe_op op_mod (pv 4) (pe_callB call_len_seq (by rfl) T.n_len (by decide +kernel) (pa_cons (pe_dget (hu_of hr) (pv 0) pe_str (fun _ _ => rfl)) pa_nil))))
    (pss_one (ps_ret (pe_tup (pa_cons pe_str (pa_cons (pe_ix ix_tup (pe_ix ix_list (pe_dget (hu_of hr) (pv 0) pe_str (fun _ _ => rfl)) (pv 10) (fun _ _ => rfl)) pe_int (fun _ _ => rfl)) (pa_cons (pv 10) (pa_cons (pv 5) pa_nil))))))))
    pss_nil)
    (pss_cons (ps_if (PW.pt (pw_and (pt_cmpR op_eq (pv 3) pe_int (nomark _)) (pw_and1 (pt_cmpR (op_neD (hu64 hr)) (pe_dget (hu_of hr) (pv 0) pe_str (fun _ _ => rfl)) (pe_lst pa_nil) (nomark _))))) (pss_cons (ps_set (i := 10) sc_L_more.nd rfl (.inl rfl) (pe_op op_mod (pv 4) (pe_callB call_len_seq (by rfl) T.n_len (by decide +kernel) (pa_cons (pe_dget (hu_of hr) (pv 0) pe_str (fun _ _ => rfl)) pa_nil))))
    (pss_one (ps_ret (pe_tup (pa_cons pe_str (pa_cons (pe_ix ix_tup (pe_ix ix_list (pe_dget (hu_of hr) (pv 0) pe_str (fun _ _ => rfl)) (pv 10) (fun _ _ => rfl)) pe_int (fun _ _ => rfl)) (pa_cons (pv 10) (pa_cons (pv 5) pa_nil))))))))
    pss_nil)
    (pss_cons (ps_if (pt_cmpR op_eq (pv 3) pe_int (nomark _)) (pss_one (ps_ret (pe_tup (pa_cons pe_str (pa_cons (pv 6) (pa_cons (pe_c (ok_L_word T) hr (by decide) (by rfl) (pa_cons (pv 4) (pa_cons (pv 6) pa_nil))) pa_nil))))))
    pss_nil)
    (pss_one (ps_ret (pe_c (ok_L_parted T) hr (by decide) (by rfl) (pa_cons (pv 2) (pa_cons (pv 5) (pa_cons (pe_op op_mod (pv 3) pe_int) (pa_cons (pv 4) pa_nil))))))))))))))))))))
    (fun vs H Q E h => vr_L_more vs H Q E h)
theorem ok_L_net (T : Tx w K mg) : Cal P w K mg base 4 "_law_net" (sp_L_net K) :=
  cal_mk (t := (rd_L_net K)) T.d_L_net sc_L_net (fun _ _ _ _ _ _ us hl => match us, hl with | [_], _ => rfl) len_L_net
    (fun f cdv A outer s H E hr => (pss_cons (ps_set (i := 1) sc_L_net.nd rfl (.inr rfl) (pe_lst (pa_cons (pv 0) (pa_cons pe_int pa_nil))))
    (pss_cons (ps_set (i := 2) sc_L_net.nd rfl (.inr rfl) (pe_c (ok_L_names T) hr (by decide) (by rfl) (pa_cons (pe_c (ok_L_cell T) hr (by decide) (by rfl) (pa_cons (pv 0) (pa_cons pe_int pa_nil))) pa_nil)))
    (pss_cons (ps_set (i := 3) sc_L_net.nd rfl (.inl rfl) (pe_c (ok_L_ends T) hr (by decide) (by rfl) (pa_cons (pv 1) (pa_cons (pv 2) pa_nil))))
    (pss_cons (ps_expr (pe_c (ok_L_leaves T) hr (by decide) (by rfl) (pa_cons (pv 1) (pa_cons (pv 3) pa_nil))))
    (pss_cons (ps_set (i := 4) sc_L_net.nd rfl (.inr rfl) (pe_dget (hu_of hr) (pv 3) pe_str (fun _ _ => rfl)))
    (pss_cons (ps_for PassesOwn.never rfl (pi_list (pe_slice sl_list (pv 0) po_none (po_some pe_int))) (pg_name (i := 5) sc_L_net.nd rfl (.inl rfl)) (pss_one (ps_expr (pe_bm PySem.F.plainAttrs_list PySem.F.slot_list_append PySem.F.type_list_append mt_append (pv 4) (pa_cons (pe_c (ok_L_more T) hr (by decide) (by rfl) (pa_cons (pv 3) (pa_cons (pe_c (ok_L_mixed T) hr (by decide) (by rfl) (pa_cons (pe_op op_mod (pv 5) pe_int) (pa_cons (pe_callB call_len_seq (by rfl) T.n_len (by decide +kernel) (pa_cons (pv 4) pa_nil)) pa_nil))) pa_nil))) pa_nil)))))
    (pss_cons (ps_set (i := 6) sc_L_net.nd rfl (.inl rfl) (pe_callTy call_tuple_of (by rfl) T.n_tuple (by decide +kernel) (pa_cons (pe_lc (own := [("_law_rest", 14)]) (g := (gName 14)) (tt := tYes) rfl sc_L_net.nd (pi_list (pe_dget (hu_of hr) (pv 3) pe_str (fun _ _ => rfl))) (blkOk_by (N := ["_law_script", "_law_draw", "_law_names_here", "_law_world", "_law_rows", "_law_cell_here", "_law_rests", "_law_memories", "_law_memory", "_law_place", "_law_value", "_law_number", "_law_outs", "_law_tables", "_law_rest", "_law_k", "_law_table"]) (sc := defScope s_L_net) (by decide +kernel)) (fun _ _ _ _ _ => (pg_name (i := 14) sc_L_net.nd rfl (.inl rfl))) (fun _ _ _ _ _ => pts_nil) (fun _ _ _ _ _ => (pe_op op_catA (pv 14) (pe_tup (pa_cons (pe_c (ok_L_of_width T) hr (by decide) (by rfl) (pa_cons (pv 4) (pa_cons (pe_ix ix_tup (pv 14) pe_int (fun _ _ => rfl)) (pa_cons (pe_c (ok_L_next T) hr (by decide) (by rfl) (pa_cons (pv 1) pa_nil)) pa_nil)))) pa_nil))))) pa_nil)))
    (pss_cons (ps_set (i := 7) sc_L_net.nd rfl (.inl rfl) (pe_lst pa_nil))
    (pss_cons (ps_for PassesOwn.never rfl (pi_list (pe_dget (hu_of hr) (pv 3) pe_str (fun _ _ => rfl))) (pg_name (i := 8) sc_L_net.nd rfl (.inl rfl)) (pss_cons (ps_set (i := 9) sc_L_net.nd rfl (.inl rfl) (pe_op op_mod (pe_c (ok_L_next T) hr (by decide) (by rfl) (pa_cons (pv 1) pa_nil)) (pe_callB call_len_seq (by rfl) T.n_len (by decide +kernel) (pa_cons (pv 4) pa_nil))))
    (pss_cons (ps_set (i := 10) sc_L_net.nd rfl (.inl rfl) (pe_c (ok_L_of_width T) hr (by decide) (by rfl) (pa_cons (pv 4) (pa_cons (pe_ix ix_tup (pv 8) pe_int (fun _ _ => rfl)) (pa_cons (pe_c (ok_L_next T) hr (by decide) (by rfl) (pa_cons (pv 1) pa_nil)) pa_nil)))))
    (pss_one (ps_expr (pe_bm PySem.F.plainAttrs_list PySem.F.slot_list_append PySem.F.type_list_append mt_append (pv 7) (pa_cons (pe_op op_catA (pv 8) (pe_tup (pa_cons (pv 9) (pa_cons (pv 10) (pa_cons (pe_c (ok_L_of_width T) hr (by decide) (by rfl) (pa_cons (pv 4) (pa_cons pe_int (pa_cons (pe_c (ok_L_next T) hr (by decide) (by rfl) (pa_cons (pv 1) pa_nil)) pa_nil)))) pa_nil))))) pa_nil)))))))
    (pss_cons (ps_set (i := 11) sc_L_net.nd rfl (.inr rfl) (pe_c (ok_L_next T) hr (by decide) (by rfl) (pa_cons (pv 1) pa_nil)))
    (pss_cons (ps_setLc (i := 12) (own := [("_law_k", 15)]) (g := (gName 15)) (tt := tYes) rfl sc_L_net.nd rfl rfl (sw_true rfl rfl rfl (by decide +kernel)) (pi_range1 (by rfl) T.n_range (pa_cons (pe_op op_add pe_int (pe_op op_mod (pv 11) pe_int)) pa_nil)) (blkOk_by (N := ["_law_script", "_law_draw", "_law_names_here", "_law_world", "_law_rows", "_law_cell_here", "_law_rests", "_law_memories", "_law_memory", "_law_place", "_law_value", "_law_number", "_law_outs", "_law_tables", "_law_rest", "_law_k", "_law_table"]) (sc := defScope s_L_net) (by decide +kernel)) (fun _ _ _ _ _ => (pg_name (i := 15) sc_L_net.nd rfl (.inl rfl))) (fun _ _ _ _ _ => pts_nil) (fun _ _ _ _ _ => (pe_tup (pa_cons (pe_ix ix_list (pv 2) (pe_op op_add pe_int (pv 15)) (fun _ _ => rfl)) (pa_cons (pe_op op_sub (pe_op op_sub (pe_callB call_len_seq (by rfl) T.n_len (by decide +kernel) (pa_cons (pv 4) pa_nil)) pe_int) (pe_op op_mod (pe_op op_mod (pe_op op_fdiv (pv 11) pe_int) (pe_op op_add (pe_op op_mul pe_int (pv 15)) pe_int)) (pe_callB call_len_seq (by rfl) T.n_len (by decide +kernel) (pa_cons (pv 4) pa_nil)))) pa_nil)))))
    (pss_cons (ps_set (i := 13) sc_L_net.nd rfl (.inl rfl) (pe_callTy call_tuple_of (by rfl) T.n_tuple (by decide +kernel) (pa_cons (pe_lc (own := [("_law_table", 16)]) (g := (gName 16)) (tt := tYes) rfl sc_L_net.nd (pi_list (pe_dget (hu_of hr) (pv 3) pe_str (fun _ _ => rfl))) (blkOk_by (N := ["_law_script", "_law_draw", "_law_names_here", "_law_world", "_law_rows", "_law_cell_here", "_law_rests", "_law_memories", "_law_memory", "_law_place", "_law_value", "_law_number", "_law_outs", "_law_tables", "_law_rest", "_law_k", "_law_table"]) (sc := defScope s_L_net) (by decide +kernel)) (fun _ _ _ _ _ => (pg_name (i := 16) sc_L_net.nd rfl (.inl rfl))) (fun _ _ _ _ _ => pts_nil) (fun _ _ _ _ _ => (pe_ix ix_tup (pv 16) pe_int (fun _ _ => rfl)))) pa_nil)))
    (pss_one (ps_ret (pe_tup (pa_cons (pe_callTy call_tuple_of (by rfl) T.n_tuple (by decide +kernel) (pa_cons (pe_dget (hu_of hr) (pv 3) pe_str (fun _ _ => rfl)) pa_nil)) (pa_cons (pe_callTy call_tuple_of (by rfl) T.n_tuple (by decide +kernel) (pa_cons (pv 4) pa_nil)) (pa_cons (pe_callTy call_tuple_of (by rfl) T.n_tuple (by decide +kernel) (pa_cons (pv 12) pa_nil)) (pa_cons (pv 6) (pa_cons (pv 13) (pa_cons (pe_callTy call_tuple_of (by rfl) T.n_tuple (by decide +kernel) (pa_cons (pv 7) pa_nil)) pa_nil))))))))))))))))))))))
    (fun vs H Q E h => vr_L_net vs H Q E h)
theorem ok_L_asked (T : Tx w K mg) : Cal P w K mg base 1 "_law_asked" (sp_L_asked K) :=
  cal_mk (t := (rd_L_asked K)) T.d_L_asked sc_L_asked (fun _ _ _ _ _ _ us hl => match us, hl with | [_], _ => rfl) len_L_asked
    (fun f cdv A outer s H E hr => (pss_cons (ps_set (i := 1) sc_L_asked.nd rfl (.inl rfl) (pe_disp (pps_cons pe_str (pe_lst (pa_cons pe_int pa_nil)) (pps_cons pe_str (pe_lst (pa_cons pe_int (pa_cons pe_int pa_nil))) (pps_cons pe_str (pe_lst (pa_cons pe_int (pa_cons pe_int (pa_cons pe_int pa_nil)))) (pps_cons pe_str (pe_lst (pa_cons pe_int pa_nil)) (pps_cons pe_str (pe_lst (pa_cons pe_int (pa_cons pe_int pa_nil))) (pps_cons pe_str (pe_lst (pa_cons pe_int pa_nil)) pps_nil)))))) (by rfl) (by rfl) (fun z => by cases z) (by decide)))
    (pss_cons (ps_expr (pe_bm PySem.F.plainAttrs_dict PySem.F.slot_dict_update PySem.F.type_dict_update mt_dupd (pv 1) (pa_cons (pe_disp (pps_cons pe_str (pe_lst (pa_cons pe_int pa_nil)) (pps_cons pe_str (pe_lst (pa_cons pe_int pa_nil)) pps_nil)) (by rfl) (by rfl) (fun z => by cases z) (by decide)) pa_nil)))
    (pss_one (ps_ret (pe_dget2 (hu_of hr) (pv 1) (pe_ix ix_tup (pv 0) pe_int (fun _ _ => rfl)) (pe_lst pa_nil) ⟨rfl, rfl, rfl, rfl⟩))))))
    (fun vs H Q E h => vr_L_asked vs H Q E h)
theorem ok_asked_by (T : Tx w K mg) : Cal P w K mg base 1 "asked_by" (sp_asked_by K) :=
  cal_mk (t := (rd_asked_by K w)) T.d_asked_by sc_asked_by (fun _ _ _ _ _ _ us hl => match us, hl with | [_], _ => rfl) len_asked_by
    (fun f cdv A outer s H E hr => (pss_one (ps_ret (pe_lc (own := [("at", 1)]) (g := (gName 1)) (tt := tYes) rfl sc_asked_by.nd (pi_tup (pe_ix ix_kdict (pe_gc (by rfl) T.c_ASKED_AT) (pe_ix ix_tup (pv 0) pe_int (fun _ _ => rfl)) (fun _ _ => rfl))) (blkOk_by (N := ["row", "at"]) (sc := defScope s_asked_by) (by decide +kernel)) (fun _ _ _ _ _ => (pg_name (i := 1) sc_asked_by.nd rfl (.inl rfl))) (fun _ _ _ _ _ => pts_nil) (fun _ _ _ _ _ => (pe_ix ix_tup (pv 0) (pv 1) (fun _ _ => rfl)))))))
    (fun vs H Q E h => vr_asked_by T.t_ASKED_AT vs H Q E h)
theorem ok_led_to (T : Tx w K mg) : Cal P w K mg base 1 "led_to" (sp_led_to K) :=
  cal_mk (t := (rd_led_to K w)) T.d_led_to sc_led_to (fun _ _ _ _ _ _ us hl => match us, hl with | [_, _], _ => rfl) len_led_to
    (fun f cdv A outer s H E hr => (pss_cons (ps_set (i := 2) sc_led_to.nd rfl (.inl rfl) (pe_ix ix_kdict (pe_gc (by rfl) T.c_ASKED_AT) (pe_ix ix_tup (pv 0) pe_int (fun _ _ => rfl)) (fun _ _ => rfl)))
    (pss_cons (ps_set (i := 3) sc_led_to.nd rfl (.inl rfl) (pe_callTy call_list_of (by rfl) T.n_list (by decide +kernel) (pa_cons (pv 0) pa_nil)))
    (pss_cons (ps_for PassesOwn.never rfl (ZW.pi_zw (by rfl) T.n_zip (pa_cons (pv 2) (pa_cons (pv 1) pa_nil))) (pg_tup rfl (pgs_cons (pg_name (i := 4) sc_led_to.nd rfl (.inl rfl)) (pgs_cons (pg_name (i := 5) sc_led_to.nd rfl (.inl rfl)) pgs_nil))) (pss_one (ps_asg (pv 5) (pg_sub (pv 3) (pv 4) set_list))))
    (pss_one (ps_ret (pe_callTy call_tuple_of (by rfl) T.n_tuple (by decide +kernel) (pa_cons (pv 3) pa_nil))))))))
    (fun vs H Q E h => vr_led_to T.t_ASKED_AT vs H Q E h)
theorem ok_L_right (T : Tx w K mg) : Cal P w K mg base 2 "_law_right" (sp_L_right K) :=
  cal_mk (t := (rd_L_right K)) T.d_L_right sc_L_right (fun _ _ _ _ _ _ us hl => match us, hl with | [_, _, _], _ => rfl) len_L_right
    (fun f cdv A outer s H E hr => (pss_cons (ps_set (i := 3) sc_L_right.nd rfl (.inl rfl) (pe_c (ok_L_asked T) hr (by decide) (by rfl) (pa_cons (pv 1) pa_nil)))
    (pss_cons (ps_set (i := 4) sc_L_right.nd rfl (.inl rfl) (pe_c (ok_asked_by T) hr (by decide) (by rfl) (pa_cons (pv 1) pa_nil)))
    (pss_cons (ps_if (PW.pt (pw_or (pt_not (pt_truth (pe_callB call_isi (by rfl) T.n_isinstance (by decide +kernel) (pa_cons (pv 4) (pa_cons (pe_bltn (by rfl) T.n_list (by decide +kernel) rfl) pa_nil))) (by intro _; rfl))) (pw_or1 (pt_cmpR (op_neD (hu64 hr)) (pv 4) (pe_lc (own := [("_law_place", 7)]) (g := (gName 7)) (tt := tYes) rfl sc_L_right.nd (pi_list (pv 3)) (blkOk_by (N := ["_law_net_here", "_law_row", "_law_number", "_law_places", "_law_found", "_law_others", "_law_due", "_law_place", "_law_other", "_law_handed", "_law_k"]) (sc := defScope s_L_right) (by decide +kernel)) (fun _ _ _ _ _ => (pg_name (i := 7) sc_L_right.nd rfl (.inl rfl))) (fun _ _ _ _ _ => pts_nil) (fun _ _ _ _ _ => (pe_ix ix_tup (pv 1) (pv 7) (fun _ _ => rfl)))) (nomark _))))) (pss_one (ps_ret pe_bl))
    pss_nil)
    (pss_cons (ps_expr (pe_bm PySem.F.plainAttrs_list PySem.F.slot_list_append PySem.F.type_list_append mt_append (pv 4) (pa_cons pe_int pa_nil)))
    (pss_cons (ps_if (pt_cmpR (op_neD (hu64 hr)) (pe_c (ok_asked_by T) hr (by decide) (by rfl) (pa_cons (pv 1) pa_nil)) (pe_lc (own := [("_law_place", 7)]) (g := (gName 7)) (tt := tYes) rfl sc_L_right.nd (pi_list (pv 3)) (blkOk_by (N := ["_law_net_here", "_law_row", "_law_number", "_law_places", "_law_found", "_law_others", "_law_due", "_law_place", "_law_other", "_law_handed", "_law_k"]) (sc := defScope s_L_right) (by decide +kernel)) (fun _ _ _ _ _ => (pg_name (i := 7) sc_L_right.nd rfl (.inl rfl))) (fun _ _ _ _ _ => pts_nil) (fun _ _ _ _ _ => (pe_ix ix_tup (pv 1) (pv 7) (fun _ _ => rfl)))) (nomark _)) (pss_one (ps_ret pe_bl))
    pss_nil)
    (pss_cons (ps_setLc (i := 5) (own := [("_law_k", 10)]) (g := (gName 10)) (tt := tYes) rfl sc_L_right.nd rfl rfl (sw_true rfl rfl rfl (by decide +kernel)) (pi_range1 (by rfl) T.n_range (pa_cons (pe_callB call_len_seq (by rfl) T.n_len (by decide +kernel) (pa_cons (pv 3) pa_nil)) pa_nil)) (blkOk_by (N := ["_law_net_here", "_law_row", "_law_number", "_law_places", "_law_found", "_law_others", "_law_due", "_law_place", "_law_other", "_law_handed", "_law_k"]) (sc := defScope s_L_right) (by decide +kernel)) (fun _ _ _ _ _ => (pg_name (i := 10) sc_L_right.nd rfl (.inl rfl))) (fun _ _ _ _ _ => pts_nil) (fun _ _ _ _ _ => (pe_op op_mod (pe_c (ok_L_mixed T) hr (by decide) (by rfl) (pa_cons (pv 2) (pa_cons (pv 10) pa_nil))) pe_int)))
    (pss_cons (ps_set (i := 6) sc_L_right.nd rfl (.inl rfl) (pe_callTy call_list_of (by rfl) T.n_list (by decide +kernel) (pa_cons (pv 1) pa_nil)))
    (pss_cons (ps_for PassesOwn.never rfl (pi_zip (by rfl) T.n_zip (pa_cons (pv 3) (pa_cons (pv 5) pa_nil))) (pg_tup rfl (pgs_cons (pg_name (i := 7) sc_L_right.nd rfl (.inl rfl)) (pgs_cons (pg_name (i := 8) sc_L_right.nd rfl (.inl rfl)) pgs_nil))) (pss_one (ps_asg (pv 8) (pg_sub (pv 6) (pv 7) set_list))))
    (pss_cons (ps_set (i := 9) sc_L_right.nd rfl (.inl rfl) (pe_callTy call_list_of (by rfl) T.n_list (by decide +kernel) (pa_cons (pv 5) pa_nil)))
    (pss_cons (ps_if (PW.pt (pw_or (pt_cmpR (op_neD (hu64 hr)) (pe_c (ok_led_to T) hr (by decide) (by rfl) (pa_cons (pv 1) (pa_cons (pv 9) pa_nil))) (pe_callTy call_tuple_of (by rfl) T.n_tuple (by decide +kernel) (pa_cons (pv 6) pa_nil)) (nomark _)) (pw_or (pt_not (pt_truth (pe_callB call_isi (by rfl) T.n_isinstance (by decide +kernel) (pa_cons (pe_c (ok_led_to T) hr (by decide) (by rfl) (pa_cons (pv 1) (pa_cons (pv 9) pa_nil))) (pa_cons (pe_bltn (by rfl) T.n_tuple (by decide +kernel) rfl) pa_nil))) (by intro _; rfl))) (pw_or1 (pt_cmpR (op_neD (hu64 hr)) (pv 9) (pv 5) (nomark _)))))) (pss_one (ps_ret pe_bl))
    pss_nil)
    (pss_one (ps_ret (pe_andT (pe_cmpR (op_eqD (hu64 hr)) (pe_c (ok_led_to T) hr (by decide) (by rfl) (pa_cons (pv 1) (pa_cons (pe_callTy call_tuple_of (by rfl) T.n_tuple (by decide +kernel) (pa_cons (pv 5) pa_nil)) pa_nil))) (pe_callTy call_tuple_of (by rfl) T.n_tuple (by decide +kernel) (pa_cons (pv 6) pa_nil)) (nomark _)) (pe_one (pe_cmpR (op_eqD (hu64 hr)) (pe_c (ok_led_to T) hr (by decide) (by rfl) (pa_cons (pv 1) (pa_cons (pe_lc (own := [("_law_place", 7)]) (g := (gName 7)) (tt := tYes) rfl sc_L_right.nd (pi_list (pv 3)) (blkOk_by (N := ["_law_net_here", "_law_row", "_law_number", "_law_places", "_law_found", "_law_others", "_law_due", "_law_place", "_law_other", "_law_handed", "_law_k"]) (sc := defScope s_L_right) (by decide +kernel)) (fun _ _ _ _ _ => (pg_name (i := 7) sc_L_right.nd rfl (.inl rfl))) (fun _ _ _ _ _ => pts_nil) (fun _ _ _ _ _ => (pe_ix ix_tup (pv 1) (pv 7) (fun _ _ => rfl)))) pa_nil))) (pv 1) (nomark _)))))))))))))))))
    (fun vs H Q E h => vr_L_right vs H Q E h)
theorem ok_top_of (T : Tx w K mg) : Cal P w K mg base 1 "top_of" sp_top_of :=
  cal_mk (t := rd_top_of) T.d_top_of sc_top_of (fun _ _ _ _ _ _ us hl => match us, hl with | [_], _ => rfl) len_top_of
    (fun f cdv A outer s H E hr => (pss_one (ps_ret (pe_op op_sub (pe_op op_shlW pe_int (pv 0)) pe_int))))
    (fun vs H Q E h => vr_top_of vs H Q E h)
theorem ok_turned (T : Tx w K mg) : Cal P w K mg base 2 "turned" sp_turned :=
  cal_mk (t := rd_turned) T.d_turned sc_turned (fun _ _ _ _ _ _ us hl => match us, hl with | [_, _], _ => rfl) len_turned
    (fun f cdv A outer s H E hr => (pss_one (ps_ret (pe_op op_xor (pv 0) (pe_c (ok_top_of T) hr (by decide) (by rfl) (pa_cons (pv 1) pa_nil))))))
    (fun vs H Q E h => vr_turned vs H Q E h)
theorem ok_two_words (T : Tx w K mg) : Cal P w K mg base 2 "two_words" sp_two_words :=
  cal_mk (t := rd_two_words) T.d_two_words sc_two_words (fun _ _ _ _ _ _ us hl => match us, hl with | [_, _, _, _], _ => rfl) len_two_words
    (fun f cdv A outer s H E hr => (pss_cons (ps_if (pt_cmpR op_eq (pv 0) pe_str (nomark _)) (pss_one (ps_ret (pe_op op_and (pv 1) (pv 2))))
    pss_nil)
    (pss_cons (ps_if (pt_cmpR op_eq (pv 0) pe_str (nomark _)) (pss_one (ps_ret (pe_op op_or (pv 1) (pv 2))))
    pss_nil)
    (pss_cons (ps_if (pt_cmpR op_eq (pv 0) pe_str (nomark _)) (pss_one (ps_ret (pe_op op_xor (pv 1) (pv 2))))
    pss_nil)
    (pss_cons (ps_if (pt_cmpR op_eq (pv 0) pe_str (nomark _)) (pss_one (ps_ret (pe_op op_and (pe_op op_add (pv 1) (pv 2)) (pe_c (ok_top_of T) hr (by decide) (by rfl) (pa_cons (pv 3) pa_nil)))))
    pss_nil)
    (pss_cons (ps_if (pt_cmpR op_eq (pv 0) pe_str (nomark _)) (pss_one (ps_ret (pe_op op_and (pe_op op_sub (pv 1) (pv 2)) (pe_c (ok_top_of T) hr (by decide) (by rfl) (pa_cons (pv 3) pa_nil)))))
    pss_nil)
    (pss_cons (ps_if (pt_cmpR op_eq (pv 0) pe_str (nomark _)) (pss_one (ps_ret (pe_ifExp (pt_cmpR op_eq (pv 1) (pv 2) (nomark _)) pe_int pe_int)))
    pss_nil)
    (pss_one (ps_ret (pe_ifExp (pt_cmpR op_lt (pv 1) (pv 2) (nomark _)) pe_int pe_int))))))))))
    (fun vs H Q E h => vr_two_words vs H Q E h)
theorem ok_cut_word (T : Tx w K mg) : Cal P w K mg base 2 "cut_word" sp_cut_word :=
  cal_mk (t := rd_cut_word) T.d_cut_word sc_cut_word (fun _ _ _ _ _ _ us hl => match us, hl with | [_, _, _], _ => rfl) len_cut_word
    (fun f cdv A outer s H E hr => (pss_one (ps_ret (pe_op op_and (pe_op op_shr (pv 0) (pv 1)) (pe_c (ok_top_of T) hr (by decide) (by rfl) (pa_cons (pv 2) pa_nil))))))
    (fun vs H Q E h => vr_cut_word vs H Q E h)
theorem ok_joined_words (T : Tx w K mg) : Cal P w K mg base 1 "joined_words" sp_joined_words :=
  cal_mk (t := rd_joined_words) T.d_joined_words sc_joined_words (fun _ _ _ _ _ _ us hl => match us, hl with | [_, _, _], _ => rfl) len_joined_words
    (fun f cdv A outer s H E hr => (pss_one (ps_ret (pe_op op_or (pe_op op_shlW (pv 0) (pv 2)) (pv 1)))))
    (fun vs H Q E h => vr_joined_words vs H Q E h)
theorem ok_cell_at (T : Tx w K mg) : Cal P w K mg base 1 "cell_at" (sp_cell_at K) :=
  cal_mk (t := (rd_cell_at K)) T.d_cell_at sc_cell_at (fun _ _ _ _ _ _ us hl => match us, hl with | [_, _], _ => rfl) len_cell_at
    (fun f cdv A outer s H E hr => (pss_one (ps_ret (pe_ifExp (pt_cmpR op_lt (pv 1) (pe_callB call_len_seq (by rfl) T.n_len (by decide +kernel) (pa_cons (pv 0) pa_nil)) (nomark _)) (pe_ix (ix_any (hu_of hr)) (pv 0) (pv 1) (fun _ _ => rfl)) pe_int))))
    (fun vs H Q E h => vr_cell_at vs H Q E h)
theorem ok_worth_of (T : Tx w K mg) : Cal P w K mg base 3 "worth_of" (sp_worth_of K) :=
  cal_mk (t := (rd_worth_of K)) T.d_worth_of sc_worth_of (fun _ _ _ _ _ _ us hl => match us, hl with | [_, _, _, _], _ => rfl) len_worth_of
    (fun f cdv A outer s H E hr => (pss_cons (ps_par rfl sc_worth_of.nd rfl rfl (by decide) rfl rfl (pa_cons (pe_ix ix_tup (pv 0) pe_int (fun _ _ => rfl)) (pa_cons (pe_ix ix_tup (pv 0) pe_int (fun _ _ => rfl)) pa_nil)) (by rfl))
    (pss_cons (ps_setLc (i := 6) (own := [("number", 7)]) (g := (gName 7)) (tt := tYes) rfl sc_worth_of.nd rfl rfl (sw_true rfl rfl rfl (by decide +kernel)) (pi_list (pe_c (ok_asked_by T) hr (by decide) (by rfl) (pa_cons (pv 0) pa_nil))) (blkOk_by (N := ["row", "words", "rows", "tables", "kind", "width", "asked", "number"]) (sc := defScope s_worth_of) (by decide +kernel)) (fun _ _ _ _ _ => (pg_name (i := 7) sc_worth_of.nd rfl (.inl rfl))) (fun _ _ _ _ _ => pts_nil) (fun _ _ _ _ _ => (pe_ix (ix_any (hu_of hr)) (pv 1) (pv 7) (fun _ _ => rfl))))
    (pss_cons (ps_if (pt_cmpR op_eq (pv 4) pe_str (nomark _)) (pss_one (ps_ret (pe_c (ok_turned T) hr (by decide) (by rfl) (pa_cons (pe_ix ix_list (pv 6) pe_int (fun _ _ => rfl)) (pa_cons (pv 5) pa_nil)))))
    pss_nil)
    (pss_cons (ps_if (pt_cmpR op_eq (pv 4) pe_str (nomark _)) (pss_one (ps_ret (pe_c (ok_two_words T) hr (by decide) (by rfl) (pa_cons (pe_ix ix_tup (pv 0) pe_int (fun _ _ => rfl)) (pa_cons (pe_ix ix_list (pv 6) pe_int (fun _ _ => rfl)) (pa_cons (pe_ix ix_list (pv 6) pe_int (fun _ _ => rfl)) (pa_cons (pv 5) pa_nil)))))))
    pss_nil)
    (pss_cons (ps_if (pt_cmpR op_eq (pv 4) pe_str (nomark _)) (pss_one (ps_ret (pe_ifExp (pt_cmpR op_eq (pe_ix ix_list (pv 6) pe_int (fun _ _ => rfl)) pe_int (nomark _)) (pe_ix ix_list (pv 6) pe_int (fun _ _ => rfl)) (pe_ix ix_list (pv 6) pe_int (fun _ _ => rfl)))))
    pss_nil)
    (pss_cons (ps_if (pt_cmpR op_eq (pv 4) pe_str (nomark _)) (pss_one (ps_ret (pe_c (ok_cut_word T) hr (by decide) (by rfl) (pa_cons (pe_ix ix_list (pv 6) pe_int (fun _ _ => rfl)) (pa_cons (pe_ix ix_tup (pv 0) pe_int (fun _ _ => rfl)) (pa_cons (pv 5) pa_nil))))))
    pss_nil)
    (pss_cons (ps_if (pt_cmpR op_eq (pv 4) pe_str (nomark _)) (pss_one (ps_ret (pe_c (ok_joined_words T) hr (by decide) (by rfl) (pa_cons (pe_ix ix_list (pv 6) pe_int (fun _ _ => rfl)) (pa_cons (pe_ix ix_list (pv 6) pe_int (fun _ _ => rfl)) (pa_cons (pe_ix ix_tup (pe_ix ix_tup (pv 2) (pe_ix ix_tup (pv 0) pe_int (fun _ _ => rfl)) (fun _ _ => rfl)) pe_int (fun _ _ => rfl)) pa_nil))))))
    pss_nil)
    (pss_cons (ps_if (pt_cmpR op_eq (pv 4) pe_str (nomark _)) (pss_one (ps_ret (pe_ix ix_list (pv 6) pe_int (fun _ _ => rfl))))
    pss_nil)
    (pss_one (ps_ret (pe_c (ok_cell_at T) hr (by decide) (by rfl) (pa_cons (pe_ix ix_tup (pv 3) (pe_ix ix_tup (pv 0) pe_int (fun _ _ => rfl)) (fun _ _ => rfl)) (pa_cons (pe_ix ix_list (pv 6) pe_int (fun _ _ => rfl)) pa_nil))))))))))))))
    (fun vs H Q E h => vr_worth_of vs H Q E h)
theorem ok_L_worth (T : Tx w K mg) : Cal P w K mg base 1 "_law_worth" (sp_L_worth K) :=
  cal_mk (t := (rd_L_worth K)) T.d_L_worth sc_L_worth (fun _ _ _ _ _ _ us hl => match us, hl with | [_, _, _, _], _ => rfl) len_L_worth
    (fun f cdv A outer s H E hr => (pss_cons (ps_par rfl sc_L_worth.nd rfl rfl (by decide) rfl rfl (pa_cons (pe_ix ix_tup (pv 0) pe_int (fun _ _ => rfl)) (pa_cons (pe_op op_shlW pe_int (pe_ix ix_tup (pv 0) pe_int (fun _ _ => rfl))) pa_nil)) (by rfl))
    (pss_cons (ps_if (pt_cmpR op_eq (pv 4) pe_str (nomark _)) (pss_cons (ps_par rfl sc_L_worth.nd rfl rfl (by decide) rfl rfl (pa_cons (pe_ix ix_list (pv 1) (pe_ix ix_tup (pv 0) pe_int (fun _ _ => rfl)) (fun _ _ => rfl)) (pa_cons (pe_ix ix_list (pv 1) (pe_ix ix_tup (pv 0) pe_int (fun _ _ => rfl)) (fun _ _ => rfl)) pa_nil)) (by rfl))
    (pss_cons (ps_set (i := 8) sc_L_worth.nd rfl (.inl rfl) (pe_disp (pps_cons pe_str (pe_op op_and (pv 6) (pv 7)) (pps_cons pe_str (pe_op op_or (pv 6) (pv 7)) (pps_cons pe_str (pe_op op_xor (pv 6) (pv 7)) (pps_cons pe_str (pe_op op_mod (pe_op op_add (pv 6) (pv 7)) (pv 5)) pps_nil)))) (by rfl) (by rfl) (fun z => by cases z) (by decide)))
    (pss_cons (ps_expr (pe_bm PySem.F.plainAttrs_dict PySem.F.slot_dict_update PySem.F.type_dict_update mt_dupd (pv 8) (pa_cons (pe_disp (pps_cons pe_str (pe_op op_mod (pe_op op_sub (pv 6) (pv 7)) (pv 5)) (pps_cons pe_str (pe_callTy call_int1 (by rfl) T.n_int (by decide +kernel) (pa_cons (pe_cmpR op_eq (pv 6) (pv 7) (nomark _)) pa_nil)) (pps_cons pe_str (pe_callTy call_int1 (by rfl) T.n_int (by decide +kernel) (pa_cons (pe_cmpR op_lt (pv 6) (pv 7) (nomark _)) pa_nil)) pps_nil))) (by rfl) (by rfl) (fun z => by cases z) (by decide)) pa_nil)))
    (pss_one (ps_ret (pe_dget (hu_of hr) (pv 8) (pe_ix ix_tup (pv 0) pe_int (fun _ _ => rfl)) (fun _ _ => rfl)))))))
    pss_nil)
    (pss_cons (ps_if (pt_cmpR op_eq (pv 4) pe_str (nomark _)) (pss_one (ps_ret (pe_op op_sub (pe_op op_sub (pv 5) pe_int) (pe_ix ix_list (pv 1) (pe_ix ix_tup (pv 0) pe_int (fun _ _ => rfl)) (fun _ _ => rfl)))))
    pss_nil)
    (pss_cons (ps_if (pt_cmpR op_eq (pv 4) pe_str (nomark _)) (pss_one (ps_ret (pe_ix ix_list (pv 1) (pe_ix ix_tup (pv 0) (pe_op op_add pe_int (pe_callTy call_int1 (by rfl) T.n_int (by decide +kernel) (pa_cons (pe_cmpR op_eq (pe_ix ix_list (pv 1) (pe_ix ix_tup (pv 0) pe_int (fun _ _ => rfl)) (fun _ _ => rfl)) pe_int (nomark _)) pa_nil))) (fun _ _ => rfl)) (fun _ _ => rfl))))
    pss_nil)
    (pss_cons (ps_if (pt_cmpR op_eq (pv 4) pe_str (nomark _)) (pss_one (ps_ret (pe_op op_mod (pe_op op_shr (pe_ix ix_list (pv 1) (pe_ix ix_tup (pv 0) pe_int (fun _ _ => rfl)) (fun _ _ => rfl)) (pe_ix ix_tup (pv 0) pe_int (fun _ _ => rfl))) (pv 5))))
    pss_nil)
    (pss_cons (ps_if (pt_cmpR op_eq (pv 4) pe_str (nomark _)) (pss_one (ps_ret (pe_op op_add (pe_op op_shlW (pe_ix ix_list (pv 1) (pe_ix ix_tup (pv 0) pe_int (fun _ _ => rfl)) (fun _ _ => rfl)) (pe_ix ix_tup (pe_ix ix_tup (pv 2) (pe_ix ix_tup (pv 0) pe_int (fun _ _ => rfl)) (fun _ _ => rfl)) pe_int (fun _ _ => rfl))) (pe_ix ix_list (pv 1) (pe_ix ix_tup (pv 0) pe_int (fun _ _ => rfl)) (fun _ _ => rfl)))))
    pss_nil)
    (pss_cons (ps_if (pt_cmpR op_eq (pv 4) pe_str (nomark _)) (pss_one (ps_ret (pe_ix ix_list (pv 1) (pe_ix ix_tup (pv 0) pe_int (fun _ _ => rfl)) (fun _ _ => rfl))))
    pss_nil)
    (pss_cons (ps_set (i := 9) sc_L_worth.nd rfl (.inl rfl) (pe_ix ix_list (pv 1) (pe_ix ix_tup (pv 0) pe_int (fun _ _ => rfl)) (fun _ _ => rfl)))
    (pss_one (ps_ret (pe_ifExp (pt_cmpR op_lt (pv 9) (pe_callB call_len_seq (by rfl) T.n_len (by decide +kernel) (pa_cons (pe_ix ix_tup (pv 3) (pe_ix ix_tup (pv 0) pe_int (fun _ _ => rfl)) (fun _ _ => rfl)) pa_nil)) (nomark _)) (pe_ix ix_tup (pe_ix ix_tup (pv 3) (pe_ix ix_tup (pv 0) pe_int (fun _ _ => rfl)) (fun _ _ => rfl)) (pv 9) (fun _ _ => rfl)) pe_int))))))))))))
    (fun vs H Q E h => vr_L_worth vs H Q E h)
theorem ok_law (T : Tx w K mg) : Cal P w K mg base 5 "law" (sp_law K) :=
  cal_mk (t := (rd_law K)) T.d_law sc_law (fun _ _ _ _ _ _ us hl => match us, hl with | [_], _ => rfl) len_law
    (fun f cdv A outer s H E hr => (pss_cons (ps_set (i := 1) sc_law.nd rfl (.inl rfl) (pe_c (ok_L_net T) hr (by decide) (by rfl) (pa_cons (pv 0) pa_nil)))
    (pss_cons (ps_set (i := 2) sc_law.nd rfl (.inl rfl) (pe_ix ix_tup (pv 1) pe_int (fun _ _ => rfl)))
    (pss_cons (ps_setLc (i := 3) (own := [("_law_k", 5), ("_law_row", 6)]) (g := (gTup K 2 (gCons (gName 5) (gCons (gName 6) gNil)))) (tt := tYes) rfl sc_law.nd rfl rfl (sw_true rfl rfl rfl (by decide +kernel)) (ZW.pi_enS (by rfl) T.n_enumerate (pa_cons (pv 2) pa_nil)) (blkOk_by (N := ["_law_script", "_law_net_here", "_law_rows", "_law_words", "_law_told", "_law_k", "_law_row", "_law_number", "_law_found", "_law_cells", "_law_at", "_law_word_here", "_law_j"]) (sc := defScope s_law) (by decide +kernel)) (fun _ _ _ _ _ => (pg_tup rfl (pgs_cons (pg_name (i := 5) sc_law.nd rfl (.inl rfl)) (pgs_cons (pg_name (i := 6) sc_law.nd rfl (.inl rfl)) pgs_nil)))) (fun _ _ _ _ _ => pts_nil) (fun _ _ _ _ _ => (pe_c (ok_L_word T) hr (by decide) (by rfl) (pa_cons (pe_c (ok_L_mixed T) hr (by decide) (by rfl) (pa_cons (pe_c (ok_L_cell T) hr (by decide) (by rfl) (pa_cons (pv 0) (pa_cons (pv 5) pa_nil))) (pa_cons (pe_op op_add pe_int (pv 5)) pa_nil))) (pa_cons (pe_ix ix_tup (pv 6) pe_int (fun _ _ => rfl)) pa_nil)))))
    (pss_cons (ps_set (i := 4) sc_law.nd rfl (.inl rfl) (pe_callTy (call_dictP rfl) (by rfl) T.n_dict (by decide +kernel) (pa_cons (pe_lc (own := [("_law_k", 5), ("_law_word_here", 11)]) (g := (gTup K 2 (gCons (gName 5) (gCons (gName 11) gNil)))) (tt := tYes) rfl sc_law.nd (pi_enum (by rfl) T.n_enumerate (pa_cons (pv 3) pa_nil)) (blkOk_by (N := ["_law_script", "_law_net_here", "_law_rows", "_law_words", "_law_told", "_law_k", "_law_row", "_law_number", "_law_found", "_law_cells", "_law_at", "_law_word_here", "_law_j"]) (sc := defScope s_law) (by decide +kernel)) (fun _ _ _ _ _ => (pg_tup rfl (pgs_cons (pg_name (i := 5) sc_law.nd rfl (.inl rfl)) (pgs_cons (pg_name (i := 11) sc_law.nd rfl (.inl rfl)) pgs_nil)))) (fun _ _ _ _ _ => pts_nil) (fun _ _ _ _ _ => (pe_tup (pa_cons (pv 5) (pa_cons (pv 11) pa_nil))))) pa_nil)))
    (pss_cons (ps_for PassesOwn.never rfl (ZW.pi_enS (by rfl) T.n_enumerate (pa_cons (pv 2) pa_nil)) (pg_tup rfl (pgs_cons (pg_name (i := 5) sc_law.nd rfl (.inl rfl)) (pgs_cons (pg_name (i := 6) sc_law.nd rfl (.inl rfl)) pgs_nil))) (pss_cons (ps_set (i := 7) sc_law.nd rfl (.inr rfl) (pe_c (ok_L_mixed T) hr (by decide) (by rfl) (pa_cons (pe_c (ok_L_cell T) hr (by decide) (by rfl) (pa_cons (pv 0) (pa_cons (pv 5) pa_nil))) (pa_cons pe_int pa_nil))))
    (pss_cons (ps_if (pt_not (pt_truth (pe_c (ok_L_right T) hr (by decide) (by rfl) (pa_cons (pv 1) (pa_cons (pv 6) (pa_cons (pv 7) pa_nil)))) (by intro _; rfl))) (pss_one (ps_ret pe_bl))
    pss_nil)
    (pss_one (ps_if (PW.pt (pw_and (pt_cmpR (op_neD (hu64 hr)) (pe_c (ok_L_asked T) hr (by decide) (by rfl) (pa_cons (pv 6) pa_nil)) (pe_lst pa_nil) (nomark _)) (pw_and1 (pt_cmpR op_ne (pe_ix ix_tup (pv 6) pe_int (fun _ _ => rfl)) pe_str (nomark _))))) (pss_cons (ps_set (i := 8) sc_law.nd rfl (.inl rfl) (pe_c (ok_worth_of T) hr (by decide) (by rfl) (pa_cons (pv 6) (pa_cons (pe_ix ix_list (pe_lst (pa_cons (pv 3) (pa_cons (pv 4) pa_nil))) (pe_op op_mod (pv 7) pe_int) (fun _ _ => rfl)) (pa_cons (pv 2) (pa_cons (pe_ix ix_tup (pv 1) pe_int (fun _ _ => rfl)) pa_nil))))))
    (pss_one (ps_if (PW.pt (pw_or (pt_cmpR op_ne (pv 8) (pe_c (ok_L_worth T) hr (by decide) (by rfl) (pa_cons (pv 6) (pa_cons (pv 3) (pa_cons (pv 2) (pa_cons (pe_ix ix_tup (pv 1) pe_int (fun _ _ => rfl)) pa_nil))))) (nomark _)) (pw_or (pt_truth (pe_callB call_isi (by rfl) T.n_isinstance (by decide +kernel) (pa_cons (pv 8) (pa_cons (pe_bltn (by rfl) T.n_bool (by decide +kernel) rfl) pa_nil))) (by intro _; rfl)) (pw_or1 (pt_not (pt_truth (pe_callB call_isi (by rfl) T.n_isinstance (by decide +kernel) (pa_cons (pv 8) (pa_cons (pe_bltn (by rfl) T.n_int (by decide +kernel) rfl) pa_nil))) (by intro _; rfl))))))) (pss_one (ps_ret pe_bl))
    pss_nil)))
    pss_nil)))))
    (pss_cons (ps_for PassesOwn.never rfl (pi_range1 (by rfl) T.n_range (pa_cons pe_int pa_nil)) (pg_name (i := 5) sc_law.nd rfl (.inl rfl)) (pss_cons (ps_set (i := 7) sc_law.nd rfl (.inr rfl) (pe_c (ok_L_mixed T) hr (by decide) (by rfl) (pa_cons (pe_c (ok_L_cell T) hr (by decide) (by rfl) (pa_cons (pv 0) (pa_cons (pv 5) pa_nil))) (pa_cons (pe_op op_add pe_int (pv 5)) pa_nil))))
    (pss_cons (ps_setLc (i := 9) (own := [("_law_j", 12)]) (g := (gName 12)) (tt := tYes) rfl sc_law.nd rfl rfl (sw_true rfl rfl rfl (by decide +kernel)) (pi_range1 (by rfl) T.n_range (pa_cons (pe_op op_mod (pv 7) pe_int) pa_nil)) (blkOk_by (N := ["_law_script", "_law_net_here", "_law_rows", "_law_words", "_law_told", "_law_k", "_law_row", "_law_number", "_law_found", "_law_cells", "_law_at", "_law_word_here", "_law_j"]) (sc := defScope s_law) (by decide +kernel)) (fun _ _ _ _ _ => (pg_name (i := 12) sc_law.nd rfl (.inl rfl))) (fun _ _ _ _ _ => pts_nil) (fun _ _ _ _ _ => (pe_c (ok_L_word T) hr (by decide) (by rfl) (pa_cons (pe_c (ok_L_mixed T) hr (by decide) (by rfl) (pa_cons (pv 7) (pa_cons (pv 12) pa_nil))) (pa_cons pe_int pa_nil)))))
    (pss_cons (ps_set (i := 10) sc_law.nd rfl (.inl rfl) (pe_ix ix_list (pe_lst (pa_cons (pe_op op_mod (pe_op op_fdiv (pv 7) pe_int) pe_int) (pa_cons (pe_callB call_len_seq (by rfl) T.n_len (by decide +kernel) (pa_cons (pv 9) pa_nil)) (pa_cons (pe_c (ok_L_word T) hr (by decide) (by rfl) (pa_cons (pe_op op_fdiv (pv 7) pe_int) (pa_cons pe_int pa_nil))) pa_nil)))) (pe_op op_mod (pe_op op_fdiv (pv 7) pe_int) pe_int) (fun _ _ => rfl)))
    (pss_one (ps_if (pt_cmpR op_ne (pe_c (ok_cell_at T) hr (by decide) (by rfl) (pa_cons (pe_ix ix_list (pe_lst (pa_cons (pv 9) (pa_cons (pe_callTy call_tuple_of (by rfl) T.n_tuple (by decide +kernel) (pa_cons (pv 9) pa_nil)) pa_nil))) (pe_op op_mod (pv 7) pe_int) (fun _ _ => rfl)) (pa_cons (pv 10) pa_nil))) (pe_ix ix_list (pe_op op_cat (pv 9) (pe_lst (pa_cons pe_int pa_nil))) (pe_callB (call_min2 rfl) (by rfl) T.n_min (by decide +kernel) (pa_cons (pv 10) (pa_cons (pe_callB call_len_seq (by rfl) T.n_len (by decide +kernel) (pa_cons (pv 9) pa_nil)) pa_nil))) (fun _ _ => rfl)) (nomark _)) (pss_one (ps_ret pe_bl))
    pss_nil))))))
    (pss_one (ps_ret pe_bl)))))))))
    (fun vs H Q E h => vr_law vs H Q E h)
end
def dd_L_mixed : He.DefD := ⟨("_law_mixed", none), "_law_mixed", "_law_mixed", defArgs s_L_mixed, defBody s_L_mixed, defScope s_L_mixed, [], []⟩
def dd_L_names : He.DefD := ⟨("_law_names", none), "_law_names", "_law_names", defArgs s_L_names, defBody s_L_names, defScope s_L_names, [], []⟩
def dd_L_cell : He.DefD := ⟨("_law_cell", none), "_law_cell", "_law_cell", defArgs s_L_cell, defBody s_L_cell, defScope s_L_cell, [], []⟩
def dd_L_next : He.DefD := ⟨("_law_next", none), "_law_next", "_law_next", defArgs s_L_next, defBody s_L_next, defScope s_L_next, [], []⟩
def dd_L_word : He.DefD := ⟨("_law_word", none), "_law_word", "_law_word", defArgs s_L_word, defBody s_L_word, defScope s_L_word, [], []⟩
def dd_L_ends : He.DefD := ⟨("_law_ends", none), "_law_ends", "_law_ends", defArgs s_L_ends, defBody s_L_ends, defScope s_L_ends, [], []⟩
def dd_L_leaves : He.DefD := ⟨("_law_leaves", none), "_law_leaves", "_law_leaves", defArgs s_L_leaves, defBody s_L_leaves, defScope s_L_leaves, [], []⟩
def dd_L_of_width : He.DefD := ⟨("_law_of_width", none), "_law_of_width", "_law_of_width", defArgs s_L_of_width, defBody s_L_of_width, defScope s_L_of_width, [], []⟩
def dd_L_parted : He.DefD := ⟨("_law_parted", none), "_law_parted", "_law_parted", defArgs s_L_parted, defBody s_L_parted, defScope s_L_parted, [], []⟩
def dd_L_more : He.DefD := ⟨("_law_more", none), "_law_more", "_law_more", defArgs s_L_more, defBody s_L_more, defScope s_L_more, [], []⟩
def dd_L_net : He.DefD := ⟨("_law_net", none), "_law_net", "_law_net", defArgs s_L_net, defBody s_L_net, defScope s_L_net, [], []⟩
def dd_L_asked : He.DefD := ⟨("_law_asked", none), "_law_asked", "_law_asked", defArgs s_L_asked, defBody s_L_asked, defScope s_L_asked, [], []⟩
def dd_asked_by : He.DefD := ⟨("asked_by", none), "asked_by", "asked_by", defArgs s_asked_by, defBody s_asked_by, defScope s_asked_by, [], []⟩
def dd_led_to : He.DefD := ⟨("led_to", none), "led_to", "led_to", defArgs s_led_to, defBody s_led_to, defScope s_led_to, [], []⟩
def dd_L_right : He.DefD := ⟨("_law_right", none), "_law_right", "_law_right", defArgs s_L_right, defBody s_L_right, defScope s_L_right, [], []⟩
def dd_top_of : He.DefD := ⟨("top_of", none), "top_of", "top_of", defArgs s_top_of, defBody s_top_of, defScope s_top_of, [], []⟩
def dd_turned : He.DefD := ⟨("turned", none), "turned", "turned", defArgs s_turned, defBody s_turned, defScope s_turned, [], []⟩
def dd_two_words : He.DefD := ⟨("two_words", none), "two_words", "two_words", defArgs s_two_words, defBody s_two_words, defScope s_two_words, [], []⟩
def dd_cut_word : He.DefD := ⟨("cut_word", none), "cut_word", "cut_word", defArgs s_cut_word, defBody s_cut_word, defScope s_cut_word, [], []⟩
def dd_joined_words : He.DefD := ⟨("joined_words", none), "joined_words", "joined_words", defArgs s_joined_words, defBody s_joined_words, defScope s_joined_words, [], []⟩
def dd_cell_at : He.DefD := ⟨("cell_at", none), "cell_at", "cell_at", defArgs s_cell_at, defBody s_cell_at, defScope s_cell_at, [], []⟩
def dd_worth_of : He.DefD := ⟨("worth_of", none), "worth_of", "worth_of", defArgs s_worth_of, defBody s_worth_of, defScope s_worth_of, [], []⟩
def dd_L_worth : He.DefD := ⟨("_law_worth", none), "_law_worth", "_law_worth", defArgs s_L_worth, defBody s_L_worth, defScope s_L_worth, [], []⟩
def dd_law : He.DefD := ⟨("law", none), "law", "law", defArgs s_law, defBody s_law, defScope s_law, [], []⟩
def fnD : List He.DefD := [dd_L_mixed, dd_L_names, dd_L_cell, dd_L_next, dd_L_word, dd_L_ends, dd_L_leaves, dd_L_of_width, dd_L_parted, dd_L_more, dd_L_net, dd_L_asked, dd_asked_by, dd_led_to, dd_L_right, dd_top_of, dd_turned, dd_two_words, dd_cut_word, dd_joined_words, dd_cell_at, dd_worth_of, dd_L_worth, dd_law]
def faD : List He.Fa := [.glo "_law_mixed", .glo "_law_names", .glo "_law_cell", .glo "_law_next", .glo "_law_word", .glo "_law_ends", .glo "_law_leaves", .glo "_law_of_width", .glo "_law_parted", .glo "_law_more", .glo "_law_net", .glo "_law_asked", .glo "asked_by", .glo "led_to", .glo "_law_right", .glo "top_of", .glo "turned", .glo "two_words", .glo "cut_word", .glo "joined_words", .glo "cell_at", .glo "worth_of", .glo "_law_worth", .glo "law", .free "bool", .free "dict", .free "enumerate", .free "int", .free "isinstance", .free "len", .free "list", .free "min", .free "range", .free "tuple", .free "zip", .glo "ASKED_AT"]
def exD : PySem.W.Frag → Bool := fun K => tabB K (He.ga K "ASKED_AT") tab_ASKED_AT
def tsD : List (Str × List Str) := [("ASKED_AT", ["in", "rest", "number", "not", "two", "pick", "cut", "join", "fill", "table", "memory"])]
theorem tx_of {K : PySem.W.Frag} {w : World} {h : Heap} {mg : Str → Option Value} (X : K.In h) (G : h.Ns mainGlobals mg) (c : He.SaysD faD fnD K) (ex : exD K = true) (tb : (tsD.map fun t => He.dicW K (He.ga K t.1)) = tsD.map fun t => some (He.keysIn w.params t.2)) : Tx w K mg where
  d_L_mixed := by
    obtain ⟨fd, F⟩ := c.def_ 0 (d := dd_L_mixed) rfl
    exact ⟨_, fd, F, He.glo_ok X G (c.fact 0 (f := .glo "_law_mixed") rfl)⟩
  d_L_names := by
    obtain ⟨fd, F⟩ := c.def_ 1 (d := dd_L_names) rfl
    exact ⟨_, fd, F, He.glo_ok X G (c.fact 1 (f := .glo "_law_names") rfl)⟩
  d_L_cell := by
    obtain ⟨fd, F⟩ := c.def_ 2 (d := dd_L_cell) rfl
    exact ⟨_, fd, F, He.glo_ok X G (c.fact 2 (f := .glo "_law_cell") rfl)⟩
  d_L_next := by
    obtain ⟨fd, F⟩ := c.def_ 3 (d := dd_L_next) rfl
    exact ⟨_, fd, F, He.glo_ok X G (c.fact 3 (f := .glo "_law_next") rfl)⟩
  d_L_word := by
    obtain ⟨fd, F⟩ := c.def_ 4 (d := dd_L_word) rfl
    exact ⟨_, fd, F, He.glo_ok X G (c.fact 4 (f := .glo "_law_word") rfl)⟩
  d_L_ends := by
    obtain ⟨fd, F⟩ := c.def_ 5 (d := dd_L_ends) rfl
    exact ⟨_, fd, F, He.glo_ok X G (c.fact 5 (f := .glo "_law_ends") rfl)⟩
  d_L_leaves := by
    obtain ⟨fd, F⟩ := c.def_ 6 (d := dd_L_leaves) rfl
    exact ⟨_, fd, F, He.glo_ok X G (c.fact 6 (f := .glo "_law_leaves") rfl)⟩
  d_L_of_width := by
    obtain ⟨fd, F⟩ := c.def_ 7 (d := dd_L_of_width) rfl
    exact ⟨_, fd, F, He.glo_ok X G (c.fact 7 (f := .glo "_law_of_width") rfl)⟩
  d_L_parted := by
    obtain ⟨fd, F⟩ := c.def_ 8 (d := dd_L_parted) rfl
    exact ⟨_, fd, F, He.glo_ok X G (c.fact 8 (f := .glo "_law_parted") rfl)⟩
  d_L_more := by
    obtain ⟨fd, F⟩ := c.def_ 9 (d := dd_L_more) rfl
    exact ⟨_, fd, F, He.glo_ok X G (c.fact 9 (f := .glo "_law_more") rfl)⟩
  d_L_net := by
    obtain ⟨fd, F⟩ := c.def_ 10 (d := dd_L_net) rfl
    exact ⟨_, fd, F, He.glo_ok X G (c.fact 10 (f := .glo "_law_net") rfl)⟩
  d_L_asked := by
    obtain ⟨fd, F⟩ := c.def_ 11 (d := dd_L_asked) rfl
    exact ⟨_, fd, F, He.glo_ok X G (c.fact 11 (f := .glo "_law_asked") rfl)⟩
  d_asked_by := by
    obtain ⟨fd, F⟩ := c.def_ 12 (d := dd_asked_by) rfl
    exact ⟨_, fd, F, He.glo_ok X G (c.fact 12 (f := .glo "asked_by") rfl)⟩
  d_led_to := by
    obtain ⟨fd, F⟩ := c.def_ 13 (d := dd_led_to) rfl
    exact ⟨_, fd, F, He.glo_ok X G (c.fact 13 (f := .glo "led_to") rfl)⟩
  d_L_right := by
    obtain ⟨fd, F⟩ := c.def_ 14 (d := dd_L_right) rfl
    exact ⟨_, fd, F, He.glo_ok X G (c.fact 14 (f := .glo "_law_right") rfl)⟩
  d_top_of := by
    obtain ⟨fd, F⟩ := c.def_ 15 (d := dd_top_of) rfl
    exact ⟨_, fd, F, He.glo_ok X G (c.fact 15 (f := .glo "top_of") rfl)⟩
  d_turned := by
    obtain ⟨fd, F⟩ := c.def_ 16 (d := dd_turned) rfl
    exact ⟨_, fd, F, He.glo_ok X G (c.fact 16 (f := .glo "turned") rfl)⟩
  d_two_words := by
    obtain ⟨fd, F⟩ := c.def_ 17 (d := dd_two_words) rfl
    exact ⟨_, fd, F, He.glo_ok X G (c.fact 17 (f := .glo "two_words") rfl)⟩
  d_cut_word := by
    obtain ⟨fd, F⟩ := c.def_ 18 (d := dd_cut_word) rfl
    exact ⟨_, fd, F, He.glo_ok X G (c.fact 18 (f := .glo "cut_word") rfl)⟩
  d_joined_words := by
    obtain ⟨fd, F⟩ := c.def_ 19 (d := dd_joined_words) rfl
    exact ⟨_, fd, F, He.glo_ok X G (c.fact 19 (f := .glo "joined_words") rfl)⟩
  d_cell_at := by
    obtain ⟨fd, F⟩ := c.def_ 20 (d := dd_cell_at) rfl
    exact ⟨_, fd, F, He.glo_ok X G (c.fact 20 (f := .glo "cell_at") rfl)⟩
  d_worth_of := by
    obtain ⟨fd, F⟩ := c.def_ 21 (d := dd_worth_of) rfl
    exact ⟨_, fd, F, He.glo_ok X G (c.fact 21 (f := .glo "worth_of") rfl)⟩
  d_L_worth := by
    obtain ⟨fd, F⟩ := c.def_ 22 (d := dd_L_worth) rfl
    exact ⟨_, fd, F, He.glo_ok X G (c.fact 22 (f := .glo "_law_worth") rfl)⟩
  d_law := by
    obtain ⟨fd, F⟩ := c.def_ 23 (d := dd_law) rfl
    exact ⟨_, fd, F, He.glo_ok X G (c.fact 23 (f := .glo "law") rfl)⟩
  n_bool := He.free_ok X G (c.fact 24 (f := .free "bool") rfl)
  n_dict := He.free_ok X G (c.fact 25 (f := .free "dict") rfl)
  n_enumerate := He.free_ok X G (c.fact 26 (f := .free "enumerate") rfl)
  n_int := He.free_ok X G (c.fact 27 (f := .free "int") rfl)
  n_isinstance := He.free_ok X G (c.fact 28 (f := .free "isinstance") rfl)
  n_len := He.free_ok X G (c.fact 29 (f := .free "len") rfl)
  n_list := He.free_ok X G (c.fact 30 (f := .free "list") rfl)
  n_min := He.free_ok X G (c.fact 31 (f := .free "min") rfl)
  n_range := He.free_ok X G (c.fact 32 (f := .free "range") rfl)
  n_tuple := He.free_ok X G (c.fact 33 (f := .free "tuple") rfl)
  n_zip := He.free_ok X G (c.fact 34 (f := .free "zip") rfl)
  c_ASKED_AT := ⟨_, He.glo_ok X G (c.fact 35 (f := .glo "ASKED_AT") rfl), rfl⟩
  t_ASKED_AT := tab_mk (tabs_at tb 0 (t := ("ASKED_AT", ["in", "rest", "number", "not", "two", "pick", "cut", "join", "fill", "table", "memory"])) rfl) ex
abbrev R : PySem.W.OpenRow := PySem.W.OpenLaw.row PySem.Challenge.rw_wireyard_k22_rows_of_nets
def loose0 : List PySem.Str := ["top_of", "turned", "two_words", "cut_word", "joined_words", "ASKED_AT", "asked_by", "led_to", "cell_at", "worth_of", "_law_cell", "_law_mixed", "_law_next", "_law_word", "_law_names", "_law_leaves", "_law_ends", "_law_of_width", "_law_parted", "_law_more", "_law_net", "_law_worth", "_law_asked", "_law_right"]
def loose : List PySem.Str := loose0
abbrev hk : PySem.W.Hook := Z.hookK faD fnD exD tsD 4
def ob (s : PySem.W.SharedT) : AlK := Z.lookK faD fnD exD tsD 4 (HandSHeadRun.getT s)
theorem ob_eq (s : PySem.W.SharedT) : ob s = hk.obs s.abs := Z.lookK_eq (HandSHeadRun.getT_eq s)
theorem run0 (b : Bool) (w : World) : HandSHeadRun.RunEq R (PySem.W.view R.prog [27]) hk ob 4000 loose (w.withFollow "special-get-raises" b) := by
  intro os
  cases b <;> kernel_rfl
theorem run (w : World) : HandSHeadRun.RunEq R (PySem.W.view R.prog [27]) hk ob 4000 loose w := by
  have h := run0 (w.params.followText "special-get-raises") w
  rwa [World.withFollow_self] at h
theorem fn_law {P : Program} {w : World} {K : PySem.W.Frag} {mg : Str → Option Value} {base : Heap} {f : Addr} {fd : FuncData} (F : FunD K "law" "law" (defArgs s_law) (defBody s_law) (defScope s_law) [] [] f fd) (T : Tx w K mg) : FnOk P w K mg base CX0 5 f fd ["_law_script"] (sp_law K) :=
  F.ok sc_law len_law fun cdv A outer s H vs Q E hr h => ⟨(rd_law K), PSs.nox ((pss_cons (ps_set (i := 1) sc_law.nd rfl (.inl rfl) (pe_c (ok_L_net T) hr (by decide) (by rfl) (pa_cons (pv 0) pa_nil)))
    (pss_cons (ps_set (i := 2) sc_law.nd rfl (.inl rfl) (pe_ix ix_tup (pv 1) pe_int (fun _ _ => rfl)))
    (pss_cons (ps_setLc (i := 3) (own := [("_law_k", 5), ("_law_row", 6)]) (g := (gTup K 2 (gCons (gName 5) (gCons (gName 6) gNil)))) (tt := tYes) rfl sc_law.nd rfl rfl (sw_true rfl rfl rfl (by decide +kernel)) (ZW.pi_enS (by rfl) T.n_enumerate (pa_cons (pv 2) pa_nil)) (blkOk_by (N := ["_law_script", "_law_net_here", "_law_rows", "_law_words", "_law_told", "_law_k", "_law_row", "_law_number", "_law_found", "_law_cells", "_law_at", "_law_word_here", "_law_j"]) (sc := defScope s_law) (by decide +kernel)) (fun _ _ _ _ _ => (pg_tup rfl (pgs_cons (pg_name (i := 5) sc_law.nd rfl (.inl rfl)) (pgs_cons (pg_name (i := 6) sc_law.nd rfl (.inl rfl)) pgs_nil)))) (fun _ _ _ _ _ => pts_nil) (fun _ _ _ _ _ => (pe_c (ok_L_word T) hr (by decide) (by rfl) (pa_cons (pe_c (ok_L_mixed T) hr (by decide) (by rfl) (pa_cons (pe_c (ok_L_cell T) hr (by decide) (by rfl) (pa_cons (pv 0) (pa_cons (pv 5) pa_nil))) (pa_cons (pe_op op_add pe_int (pv 5)) pa_nil))) (pa_cons (pe_ix ix_tup (pv 6) pe_int (fun _ _ => rfl)) pa_nil)))))
    (pss_cons (ps_set (i := 4) sc_law.nd rfl (.inl rfl) (pe_callTy (call_dictP rfl) (by rfl) T.n_dict (by decide +kernel) (pa_cons (pe_lc (own := [("_law_k", 5), ("_law_word_here", 11)]) (g := (gTup K 2 (gCons (gName 5) (gCons (gName 11) gNil)))) (tt := tYes) rfl sc_law.nd (pi_enum (by rfl) T.n_enumerate (pa_cons (pv 3) pa_nil)) (blkOk_by (N := ["_law_script", "_law_net_here", "_law_rows", "_law_words", "_law_told", "_law_k", "_law_row", "_law_number", "_law_found", "_law_cells", "_law_at", "_law_word_here", "_law_j"]) (sc := defScope s_law) (by decide +kernel)) (fun _ _ _ _ _ => (pg_tup rfl (pgs_cons (pg_name (i := 5) sc_law.nd rfl (.inl rfl)) (pgs_cons (pg_name (i := 11) sc_law.nd rfl (.inl rfl)) pgs_nil)))) (fun _ _ _ _ _ => pts_nil) (fun _ _ _ _ _ => (pe_tup (pa_cons (pv 5) (pa_cons (pv 11) pa_nil))))) pa_nil)))
    (pss_cons (ps_for PassesOwn.never rfl (ZW.pi_enS (by rfl) T.n_enumerate (pa_cons (pv 2) pa_nil)) (pg_tup rfl (pgs_cons (pg_name (i := 5) sc_law.nd rfl (.inl rfl)) (pgs_cons (pg_name (i := 6) sc_law.nd rfl (.inl rfl)) pgs_nil))) (pss_cons (ps_set (i := 7) sc_law.nd rfl (.inr rfl) (pe_c (ok_L_mixed T) hr (by decide) (by rfl) (pa_cons (pe_c (ok_L_cell T) hr (by decide) (by rfl) (pa_cons (pv 0) (pa_cons (pv 5) pa_nil))) (pa_cons pe_int pa_nil))))
    (pss_cons (ps_if (pt_not (pt_truth (pe_c (ok_L_right T) hr (by decide) (by rfl) (pa_cons (pv 1) (pa_cons (pv 6) (pa_cons (pv 7) pa_nil)))) (by intro _; rfl))) (pss_one (ps_ret pe_bl))
    pss_nil)
    (pss_one (ps_if (PW.pt (pw_and (pt_cmpR (op_neD (hu64 hr)) (pe_c (ok_L_asked T) hr (by decide) (by rfl) (pa_cons (pv 6) pa_nil)) (pe_lst pa_nil) (nomark _)) (pw_and1 (pt_cmpR op_ne (pe_ix ix_tup (pv 6) pe_int (fun _ _ => rfl)) pe_str (nomark _))))) (pss_cons (ps_set (i := 8) sc_law.nd rfl (.inl rfl) (pe_c (ok_worth_of T) hr (by decide) (by rfl) (pa_cons (pv 6) (pa_cons (pe_ix ix_list (pe_lst (pa_cons (pv 3) (pa_cons (pv 4) pa_nil))) (pe_op op_mod (pv 7) pe_int) (fun _ _ => rfl)) (pa_cons (pv 2) (pa_cons (pe_ix ix_tup (pv 1) pe_int (fun _ _ => rfl)) pa_nil))))))
    (pss_one (ps_if (PW.pt (pw_or (pt_cmpR op_ne (pv 8) (pe_c (ok_L_worth T) hr (by decide) (by rfl) (pa_cons (pv 6) (pa_cons (pv 3) (pa_cons (pv 2) (pa_cons (pe_ix ix_tup (pv 1) pe_int (fun _ _ => rfl)) pa_nil))))) (nomark _)) (pw_or (pt_truth (pe_callB call_isi (by rfl) T.n_isinstance (by decide +kernel) (pa_cons (pv 8) (pa_cons (pe_bltn (by rfl) T.n_bool (by decide +kernel) rfl) pa_nil))) (by intro _; rfl)) (pw_or1 (pt_not (pt_truth (pe_callB call_isi (by rfl) T.n_isinstance (by decide +kernel) (pa_cons (pv 8) (pa_cons (pe_bltn (by rfl) T.n_int (by decide +kernel) rfl) pa_nil))) (by intro _; rfl))))))) (pss_one (ps_ret pe_bl))
    pss_nil)))
    pss_nil)))))
    (pss_cons (ps_for PassesOwn.never rfl (pi_range1 (by rfl) T.n_range (pa_cons pe_int pa_nil)) (pg_name (i := 5) sc_law.nd rfl (.inl rfl)) (pss_cons (ps_set (i := 7) sc_law.nd rfl (.inr rfl) (pe_c (ok_L_mixed T) hr (by decide) (by rfl) (pa_cons (pe_c (ok_L_cell T) hr (by decide) (by rfl) (pa_cons (pv 0) (pa_cons (pv 5) pa_nil))) (pa_cons (pe_op op_add pe_int (pv 5)) pa_nil))))
    (pss_cons (ps_setLc (i := 9) (own := [("_law_j", 12)]) (g := (gName 12)) (tt := tYes) rfl sc_law.nd rfl rfl (sw_true rfl rfl rfl (by decide +kernel)) (pi_range1 (by rfl) T.n_range (pa_cons (pe_op op_mod (pv 7) pe_int) pa_nil)) (blkOk_by (N := ["_law_script", "_law_net_here", "_law_rows", "_law_words", "_law_told", "_law_k", "_law_row", "_law_number", "_law_found", "_law_cells", "_law_at", "_law_word_here", "_law_j"]) (sc := defScope s_law) (by decide +kernel)) (fun _ _ _ _ _ => (pg_name (i := 12) sc_law.nd rfl (.inl rfl))) (fun _ _ _ _ _ => pts_nil) (fun _ _ _ _ _ => (pe_c (ok_L_word T) hr (by decide) (by rfl) (pa_cons (pe_c (ok_L_mixed T) hr (by decide) (by rfl) (pa_cons (pv 7) (pa_cons (pv 12) pa_nil))) (pa_cons pe_int pa_nil)))))
    (pss_cons (ps_set (i := 10) sc_law.nd rfl (.inl rfl) (pe_ix ix_list (pe_lst (pa_cons (pe_op op_mod (pe_op op_fdiv (pv 7) pe_int) pe_int) (pa_cons (pe_callB call_len_seq (by rfl) T.n_len (by decide +kernel) (pa_cons (pv 9) pa_nil)) (pa_cons (pe_c (ok_L_word T) hr (by decide) (by rfl) (pa_cons (pe_op op_fdiv (pv 7) pe_int) (pa_cons pe_int pa_nil))) pa_nil)))) (pe_op op_mod (pe_op op_fdiv (pv 7) pe_int) pe_int) (fun _ _ => rfl)))
    (pss_one (ps_if (pt_cmpR op_ne (pe_c (ok_cell_at T) hr (by decide) (by rfl) (pa_cons (pe_ix ix_list (pe_lst (pa_cons (pv 9) (pa_cons (pe_callTy call_tuple_of (by rfl) T.n_tuple (by decide +kernel) (pa_cons (pv 9) pa_nil)) pa_nil))) (pe_op op_mod (pv 7) pe_int) (fun _ _ => rfl)) (pa_cons (pv 10) pa_nil))) (pe_ix ix_list (pe_op op_cat (pv 9) (pe_lst (pa_cons pe_int pa_nil))) (pe_callB (call_min2 rfl) (by rfl) T.n_min (by decide +kernel) (pa_cons (pv 10) (pa_cons (pe_callB call_len_seq (by rfl) T.n_len (by decide +kernel) (pa_cons (pv 9) pa_nil)) pa_nil))) (fun _ _ => rfl)) (nomark _)) (pss_one (ps_ret pe_bl))
    pss_nil))))))
    (pss_one (ps_ret pe_bl))))))))), vr_law vs H Q E h⟩
theorem facts {P : Program} {w : World} {K : PySem.W.Frag} {h : Heap} {mg : Str → Option Value} {f : Addr} (X : K.In h) (G : h.Ns mainGlobals mg) (hfa : mg ("law" : Str) = some (.ref f)) (c : He.SaysD faD fnD K) (x : exD K = true) (tb : (tsD.map fun t => He.dicW K (He.ga K t.1)) = tsD.map fun t => some (He.keysIn w.params t.2)) :
    ∃ fd : FuncData, (∀ (s : Shared) (v : Value), BindsTo s fd ⟨[v], []⟩ [("_law_script", v)]) ∧ ∀ base : Heap, K.In base → base.Ns mainGlobals mg → FnOk P w K mg base CX0 5 f fd ["_law_script"] (sp_law K) := by
  have T : Tx w K mg := tx_of X G c x tb
  obtain ⟨fd, F⟩ := c.def_ 23 (d := dd_law) rfl
  have e := hfa.symm.trans (He.glo_ok X G (c.fact 23 (f := .glo "law") rfl))
  cases e
  have b := FunD.bindsA (ps := ["_law_script"]) F fun _ _ _ _ _ _ us hl => match us, hl with | [_], _ => rfl
  refine ⟨fd, fun s v => b s [v] rfl, fun base _ _ => ?_⟩
  exact fn_law F T
end K22
open PySem PySem.W PySem.Calls PyProof.Rows
set_option maxHeartbeats 0 in
theorem PySem.Challenge.cw_wireyard_k22_rows_of_nets_holds : PySem.Challenge.rw_wireyard_k22_rows_of_nets.Holds := by
  w_on; o_law
  refine HandSHeadRun.head_any (r := K22.R) (q := view K22.R.prog [27]) (H := K22.hk) (ob := K22.ob) (M := 4000) (loose := K22.loose) (d := HandSHeadRun.topDef K22.R.prog 27) (kwd := []) K22.ob_eq
    (by kernel_rfl) (fun s => by kernel_rfl) K22.run (by kernel_rfl) (by kernel_rfl) (by kernel_rfl) (by rfl) (by first | assumption | decide +kernel) (by decide +kernel) ⟨rfl, rfl, rfl, rfl, rfl, by decide +kernel⟩ ?hw ?hc
  case hw => w_witness2
  case hc =>
    refine L2.walk_ofE (l := PySem.Challenge.rw_wireyard_k22_rows_of_nets) (n := 63) (k := 5) (x := "_law_script") (CX := L2.CX0) rfl (by decide) (by kernel_rfl) ⟨rfl, by decide, by decide⟩ ?F (fun _ _ _ _ z => z)
    intro w mg fa h Y G hmg0
    obtain ⟨K, KX, c, x, tb⟩ := Y
    have hmg : mg ("law" : PySem.Str) = some (.ref fa) := by
      have e : (HandSHeadRun.topDef K22.R.prog 27).name = ("law" : PySem.Str) := by kernel_rfl
      rw [← e]
      exact hmg0
    obtain ⟨fd, hb, hF⟩ := K22.facts (P := (PySem.Challenge.rw_wireyard_k22_rows_of_nets).prog) (w := w) KX G hmg c x tb
    exact ⟨K, fd, K22.sp_law K, KX, hb, fun H a ns hl _ hS => ⟨a, ns, rfl, hS, hl, fun _ _ => rfl⟩, hF⟩
