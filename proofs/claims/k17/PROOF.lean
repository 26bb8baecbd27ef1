import PyProof.Rows.All
import Wide.All
import OpenK.AllK
import Wide.FinOn
import Lean
import KE.KStateDown
import HandS.ForMost
import HandS.Walk
import HandS.Evl
import HandS.Flow
import HandS.Style
import HandS.WideBits
import HandS.Defaults
import HandS.IsInst
import HandS.More
import HandS.Replace
import HandS.TupLe
import HandS.RevRange
import HandS.Conv
import HandS.TupAny
import KE.IntTextLaws
import HandS.Head0
import HandS.Head1
import HandS.Head2
import HandS.HeadEnd
import HandS.HeadHook1
import HandS.HeadHook2
import PyProof.ReprRoads
import PyProof.StrLawsRepr
import PyProof.DictUpdate
import HandS.Rev
import HandS.RevTup
import KE.KDictList
import HandS.HeadHook3
import HandS.Zip
import KE.KDictZip
import HandS.DictComp
import HandS.Finally
import HandS.Strs
import PySem.Challenge.RW_wireyard_k17_what_is_made_and_asked
set_option Elab.async false
set_option linter.all false
set_option maxRecDepth 100000
set_option maxHeartbeats 4000000
/-! Z: my own short steps over the hand layer: one lemma a reading, in the order in which the code runs; heaps are letters, joined by Ex. -/
namespace Z
open PySem PySem.Spec PyProof.Rows L2
open Evl (Ex ex_l ex_t ex_rd sq_of st_of fresh_back)

/-! ### short names of readings -/
abbrev rAddI : R2 := rI0 fun i j => .int (i + j)
abbrev rSubI : R2 := rI0 fun i j => .int (i - j)
abbrev rMulI : R2 := rI CMul fun i j => .int (i * j)
abbrev rMulX : R2 := rI CMulX fun i j => .int (i * j)
abbrev rDivI : R2 := rI CDiv fun i j => .int (i / j)
abbrev rDivW : R2 := rI CDivW fun i j => .int (i / j)
abbrev rIndexS : V → List V → Hp → VK → Prop := fun x xs H Q => ∃ a b i rest, x = .str a ∧ xs = [.str b] ∧ Builtin.Str.occurrences a b 0 a.length 1 = i :: rest ∧ Q (.int (i : Nat)) H
abbrev rModI : R2 := rI (fun _ j => 0 < j) fun i j => .int (i % j)
abbrev rPowI : R2 := rI CPow fun i j => .int (i ^ j.toNat)
abbrev rShlI : R2 := rI CShl fun i j => .int (i * 2 ^ j.toNat)
abbrev rShrI : R2 := rI (fun _ j => 0 ≤ j) fun i j => .int (i / 2 ^ j.toNat)
abbrev rAndI : R2 := rI0 fun i j => .int (Builtin.bitAnd i j)
abbrev rOrI : R2 := rI0 fun i j => .int (Builtin.bitOr i j)
abbrev rXorI : R2 := rI0 fun i j => .int (Builtin.bitXor i j)
abbrev rLtI : R2 := rI0 fun i j => .bl (decide (i < j))
abbrev rLeI : R2 := rI0 fun i j => .bl (decide (i ≤ j))
abbrev rGtI : R2 := rI0 fun i j => .bl (decide (j < i))
abbrev rGeI : R2 := rI0 fun i j => .bl (decide (j ≤ i))
abbrev rNegI : V → Hp → VK → Prop := rU fun i => .int (-i)
def rAddStr : R2 := fun x y H Q => ∃ i j, x = .str i ∧ y = .str j ∧ i.length + j.length ≤ sizeLine ∧ Q (.str (i ++ j)) H
def rInSgn : R2 := fun x y H Q => ∃ (c : Nat) (z : Str), x = .str ⟨#[c]⟩ ∧ y = .str z ∧ Q (.bl (decide (c ∈ z.cps.toList))) H
def rNinSgn : R2 := fun x y H Q => ∃ (c : Nat) (z : Str), x = .str ⟨#[c]⟩ ∧ y = .str z ∧ Q (.bl (!decide (c ∈ z.cps.toList))) H
abbrev cLenSeq (K : PySem.W.Frag) : List V → Hp → VK → Prop := fun xs H Q => ∃ p ys, xs = [.ref p] ∧ (SqL K H p ys ∨ SqT K H p ys) ∧ Q (.int ys.length) H
abbrev cLenStr : List V → Hp → VK → Prop := fun xs H Q => ∃ z, xs = [.str z] ∧ z.length ≤ sizeLine ∧ Q (.int z.length) H
abbrev cInt1 : List V → Hp → VK → Prop := fun xs H Q => (∃ i, xs = [.int i] ∧ Q (.int i) H) ∨ ∃ k, xs = [.bl k] ∧ Q (.int (if k then 1 else 0)) H
abbrev cMax2 : List V → Hp → VK → Prop := fun xs H Q => ∃ i j, xs = [.int i, .int j] ∧ Q (.int (if j > i then j else i)) H
abbrev cMin2 : List V → Hp → VK → Prop := fun xs H Q => ∃ i j, xs = [.int i, .int j] ∧ Q (.int (if j < i then j else i)) H
abbrev rIsBl : R2 := fun x y H Q => ∃ a b, x = .bl a ∧ y = .bl b ∧ Q (.bl (decide (a = b))) H
abbrev rNotBl : R2 := fun x y H Q => ∃ a b, x = .bl a ∧ y = .bl b ∧ Q (.bl (!decide (a = b))) H
def rMulStr : R2 := fun x y H Q => ∃ (s : Str) (n : Int), x = .str s ∧ y = .int n ∧ MulOk s n ∧ Q (.str (Txt.mul s n)) H
theorem op_mul_str {X : Cx} : OpR X (binaryOp .Mult) rMulStr := fun pins s σ H x y v u Q I rx ry h => by
  obtain ⟨z, n, rfl, rfl, hz, q⟩ := h
  obtain ⟨t1, rfl⟩ := rx
  obtain ⟨t2, rfl⟩ := ry
  exact SB.mul hz fun t' k => ⟨.str (Txt.mul z n), H, I.tok _, ⟨_, rfl⟩, q⟩
abbrev rJoin (K : PySem.W.Frag) : V → List V → Hp → VK → Prop := fun x xs H Q => ∃ a p, ∃ ys : List Str, x = .str a ∧ xs = [.ref p] ∧ (SqL K H p (ys.map V.str) ∨ SqT K H p (ys.map V.str)) ∧ (ys.map (·.length)).sum + ys.length * a.length ≤ 16777216 ∧ Q (.str (Txt.join a ys)) H
abbrev cStrInt : List V → Hp → VK → Prop := fun xs H Q => ∃ i : Int, xs = [.int i] ∧ i.natAbs.log2 < 1920 ∧ Q (.str (toString i)) H
abbrev cIntStr : List V → Hp → VK → Prop := fun xs H Q => ∃ a n, xs = [.str a] ∧ PySem.intText? a = some n ∧ a.length ≤ 640 ∧ Q (.int n) H
abbrev rPartition : V → List V → Hp → VK → Prop := fun x xs H Q => ∃ a b, x = .str a ∧ xs = [.str b] ∧ (b.length == 0) = false ∧ a.length ≤ sizeLine ∧ ∀ p, H p = none → Q (.ref p) (upd H p (.tup [.str (Txt.partition a b).1, .str (Txt.partition a b).2.1, .str (Txt.partition a b).2.2]))
abbrev rSplit : V → List V → Hp → VK → Prop := fun x xs H Q => ∃ a b, x = .str a ∧ xs = [.str b] ∧ (b.length == 0) = false ∧ a.length + 2 ≤ sizeLine ∧ ∀ p, H p = none → Q (.ref p) (upd H p (.lst ((Txt.split a b).map V.str)))
abbrev rUpper : V → List V → Hp → VK → Prop := fun x xs H Q => ∃ a, x = .str a ∧ xs = [] ∧ a.length ≤ 5592405 ∧ Q (.str (Txt.upper a)) H
abbrev tTru (K : PySem.W.Frag) (ta : TE) : TT := fun σ H Q => ta σ H fun x H' => ∃ k, TruV K x H' k ∧ Q k H'

/-! ### a def of the module and its promise -/
def DX (K : PySem.W.Frag) (mg : Str → Option Value) (x : Str) (st : Stmt) : Prop := ∃ f fd, FunD K x x (defArgs st) (defBody st) (defScope st) [] [] f fd ∧ mg x = some (.ref f)
structure Cal (P : Program) (w : World) (K : PySem.W.Frag) (mg : Str → Option Value) (base : Heap) (k : Nat) (x : Str) (sp : Sp) : Prop where
  ex : ∃ (f : Addr) (fd : FuncData) (ps : List Str), FnOk P w K mg base CX0 k f fd ps sp ∧ mg x = some (.ref f) ∧ PySem.W.keepIn K (.ref f) = true ∧ Binds K fd ps []
section
variable {X : Cx} {k j : Nat} {x : Str} {sp : Sp} {p pos : Pos} {e : Expr} {es : List Expr} {t : TA}
theorem pe_c (c : Cal X.prog X.w X.K X.mg X.base k x sp) (hr : Room j X.A) (hk : k ≤ j) (hg : Gl X x) (ha : PA X (e :: es) t)
    (hdb : (x == ("__debug__" : Str)) = false := by decide) (he : starEach (e :: es) X.env = (false, eval e X.env) :: starEach es X.env := by rfl) (hpl : (backTo pos (starEach es X.env)).any (·.1) = false := by rfl) :
    PE X (.Call (.Name x p) (e :: es) [] pos) (tCall sp [] E0 t) := by
  obtain ⟨f, fd, ps, F, hm, kp, b⟩ := c.ex
  exact pe_call F (hr.mono hk) hg hm kp b .nil pass0 ha hdb he hpl
theorem pe_c0 (c : Cal X.prog X.w X.K X.mg X.base k x sp) (hr : Room j X.A) (hk : k ≤ j) (hg : Gl X x) (hdb : (x == ("__debug__" : Str)) = false := by decide) :
    PE X (.Call (.Name x p) [] [] pos) (tCall sp [] E0 tNil) := by
  obtain ⟨f, fd, ps, F, hm, kp, b⟩ := c.ex
  exact pe_call0 F (hr.mono hk) hg hm kp b .nil pass0 hdb
/-- a name of the module, by its value -/
theorem pe_gc {v : V} (hg : Gl X x) (h : ∃ u, X.mg x = some u ∧ RelV v u) (hd : (x == ("__debug__" : Str)) = false := by decide) : PE X (.Name x pos) (tC v) := by
  obtain ⟨u, hm, r⟩ := h
  exact pe_glob hg hm r hd
end
section
variable {P : Program} {w : World} {K : PySem.W.Frag} {mg : Str → Option Value} {base : Heap}
theorem cal_mk {x : Str} {st : Stmt} {N ps : List Str} {k : Nat} {sp : Sp} {t : TS} (D : DX K mg x st) (S : FnScope N ps (defScope st))
    (hb : ∀ (kV doc pm : Value) (an : Option Addr) (cdv ct : Value) (us : List Value), us.length = ps.length → bindArgs (PySem.W.fnOf x x (defArgs st) (defBody st) (defScope st) .none kV doc pm an cdv ct) ⟨us, []⟩ = pure (ps.zip us))
    (len : ∀ vs H Q E, sp vs H Q E → vs.length = ps.length)
    (hd : ∀ (f : Addr) (cdv : Value) (A : Around) (outer : List Env) (s : Shared) (H : Hp) (E : XK), Room k (A.deeper (envOfC x (defScope st) s.heap.objs.size f cdv)) → PSs (cxOf CX0 P w K mg base N x (defScope st) f cdv A outer s H E).nox (defBody st) t)
    (hv : ∀ vs H Q E, sp vs H Q E → t { nx := fun _ H' => Q .non H', rt := Q } (start N vs) H) : Cal P w K mg base (k + 1) x sp := by
  obtain ⟨f, fd, F, hm⟩ := D
  exact ⟨f, fd, ps, F.ok S len fun cdv A outer s H vs Q E hr h => ⟨t, PSs.nox (hd f cdv A outer s H E hr), hv vs H Q E h⟩, hm, F.kp, F.bindsN hb⟩
end
theorem hu64 {A : Around} {k : Nat} (hr : Room k A) : A.units + 64 < cLine := by have := hr.un; omega

/-! ### heaps: the facts of an elder one -/
section
variable {K : PySem.W.Frag} {σ : L2.St} {H H' : Hp} {Q : VK} {QB : Bool → Hp → Prop} {QA : List V → Hp → Prop} {QO : Option Int → Hp → Prop} {D : Ends} {v x y : V} {i j : Int} {a p : Addr} {xs : List V} {s z : Str} {b : Bool}
variable {ta tb te tc : TE} {t u : TT} {tl th : TO} {tr : TA} {ts tu : TS} {r : R2} {g : TG}

theorem szl {n : Nat} (h : n ≤ 1000) : n ≤ sizeLine := Nat.le_trans h (by decide)
theorem szlt {n : Nat} (h : n ≤ 1000) : n < sizeLine := Nat.lt_of_le_of_lt h (by decide)
/-! ### expressions -/
theorem z_var {n : Nat} (h : σ[n]? = some (some v)) (q : Q v H) : tVar n σ H Q := ⟨v, h, q⟩
theorem z_c (q : Q v H) : tC v σ H Q := q
theorem z_op (q : ta σ H fun x H1 => tb σ H1 fun y H2 => r x y H2 Q) : tOp r ta tb σ H Q := q
theorem z_un {r : V → Hp → VK → Prop} (q : ta σ H fun x H1 => r x H1 Q) : tUn r ta σ H Q := q
theorem z_i0 {f : Int → Int → V} (q : Q (f i j) H) : rI0 f (.int i) (.int j) H Q := ⟨i, j, rfl, rfl, q⟩
theorem z_i {C : Int → Int → Prop} {f : Int → Int → V} (h : C i j) (q : Q (f i j) H) : rI C f (.int i) (.int j) H Q := ⟨i, j, rfl, rfl, h, q⟩
theorem z_u {f : Int → V} (q : Q (f i) H) : rU f (.int i) H Q := ⟨i, rfl, q⟩
theorem z_eq (h : scal x y = true) (q : Q (.bl (decide (x = y))) H) : rEq x y H Q := ⟨h, q⟩
theorem z_ne (h : scal x y = true) (q : Q (.bl (!decide (x = y))) H) : rNe x y H Q := ⟨h, q⟩
theorem z_addS (h : s.length + z.length ≤ sizeLine) (q : Q (.str (s ++ z)) H) : rAddStr (.str s) (.str z) H Q := ⟨s, z, rfl, rfl, h, q⟩
theorem z_inS {c : Nat} (q : Q (.bl (decide (c ∈ z.cps.toList))) H) : rInSgn (.str ⟨#[c]⟩) (.str z) H Q := ⟨c, z, rfl, rfl, q⟩
theorem z_ninS {c : Nat} (q : Q (.bl (!decide (c ∈ z.cps.toList))) H) : rNinSgn (.str ⟨#[c]⟩) (.str z) H Q := ⟨c, z, rfl, rfl, q⟩
theorem z_if (q : t σ H fun c H1 => if c = true then ta σ H1 Q else tb σ H1 Q) : tIf t ta tb σ H Q := q
theorem z_andT (q : ta σ H fun x H1 => ∃ k, TruV K x H1 k ∧ if k = true then tb σ H1 Q else Q x H1) : tAndT K ta tb σ H Q := q
theorem z_orT (q : ta σ H fun x H1 => ∃ k, TruV K x H1 k ∧ if k = true then Q x H1 else tb σ H1 Q) : tOrT K ta tb σ H Q := q
theorem z_notT (q : ta σ H fun x H1 => ∃ k, TruV K x H1 k ∧ Q (.bl (!k)) H1) : tNotT K ta σ H Q := q
theorem z_isN (q : ta σ H fun x H1 => Q (.bl (decide (x = .non))) H1) : tIsN ta σ H Q := q
theorem z_notN (q : ta σ H fun x H1 => Q (.bl (!decide (x = .non))) H1) : tNotN ta σ H Q := q
theorem z_nil (q : QA [] H) : tNil σ H QA := q
theorem z_cons (q : te σ H fun x H1 => tr σ H1 fun xs H2 => QA (x :: xs) H2) : tCons te tr σ H QA := q
theorem z_call {sp : Sp} {E : XK} (q : tr σ H fun vs H1 => sp (vs ++ []) H1 Q E) : tCall sp [] E tr σ H Q := q
theorem z_cb {r : List V → Hp → VK → Prop} (q : tr σ H fun vs H1 => r vs H1 Q) : tCB r tr σ H Q := q
theorem z_lst (q : tr σ H fun xs H1 => xs.length ≤ sizeLine ∧ ∀ p, H1 p = none → Q (.ref p) (upd H1 p (.lst xs))) : tLst tr σ H Q := q
theorem z_tup (q : tr σ H fun xs H1 => xs.length ≤ sizeLine ∧ ∀ p, H1 p = none → Q (.ref p) (upd H1 p (.tup xs))) : tTup tr σ H Q := q
theorem z_ixL {l : Addr} (h : SqL K H l xs) (e : atI xs i = some v) (q : Q v H) : rIxL K (.ref l) (.int i) H Q := ⟨l, xs, i, v, rfl, rfl, h, e, q⟩
theorem z_ixT {l : Addr} (h : SqT K H l xs) (e : atI xs i = some v) (q : Q v H) : rIxT K (.ref l) (.int i) H Q := ⟨l, xs, i, v, rfl, rfl, h, e, q⟩
theorem z_ixS {c : Nat} (h : z.length ≤ sizeLine) (e : atI z.cps.toList i = some c) (q : Q (.str ⟨#[c]⟩) H) : rIxS (.str z) (.int i) H Q := ⟨z, i, c, rfl, rfl, h, e, q⟩
theorem z_cat {l m : Addr} {ys : List V} (h : H l = some (.lst xs)) (h2 : H m = some (.lst ys)) (hz : xs.length + ys.length ≤ sizeLine) (q : ∀ p, H p = none → Q (.ref p) (upd H p (.lst (xs ++ ys)))) : rCat (.ref l) (.ref m) H Q := ⟨l, m, xs, ys, rfl, rfl, h, h2, hz, q⟩
theorem z_rep {l : Addr} {k : Int} (h : H l = some (.lst xs)) (h1 : -(2 ^ 63) ≤ k) (h2 : k < 2 ^ 63) (hz : xs.length * k.toNat ≤ sizeLine) (q : ∀ p, H p = none → Q (.ref p) (upd H p (.lst (List.replicate k.toNat xs).flatten))) : rRep (.ref l) (.int k) H Q := ⟨l, k, xs, rfl, rfl, h, h1, h2, hz, q⟩
theorem z_inL {l : Addr} {neg : Bool} (h : SqL K H l xs) (hx : flatV x = true) (hs : xs.all flatV = true) (q : Q (.bl (if neg then !inV x xs else inV x xs)) H) : rIn K neg x (.ref l) H Q := ⟨l, xs, rfl, .inl h, hx, hs, q⟩
theorem z_inT {l : Addr} {neg : Bool} (h : SqT K H l xs) (hx : flatV x = true) (hs : xs.all flatV = true) (q : Q (.bl (if neg then !inV x xs else inV x xs)) H) : rIn K neg x (.ref l) H Q := ⟨l, xs, rfl, .inr h, hx, hs, q⟩
theorem z_lenL {l : Addr} (h : SqL K H l xs) (q : Q (.int xs.length) H) : cLenSeq K [.ref l] H Q := ⟨l, xs, rfl, .inl h, q⟩
theorem z_lenT {l : Addr} (h : SqT K H l xs) (q : Q (.int xs.length) H) : cLenSeq K [.ref l] H Q := ⟨l, xs, rfl, .inr h, q⟩
theorem z_lenS (h : z.length ≤ sizeLine) (q : Q (.int z.length) H) : cLenStr [.str z] H Q := ⟨z, rfl, h, q⟩
theorem z_int1 (q : Q (.int i) H) : cInt1 [.int i] H Q := .inl ⟨i, rfl, q⟩
theorem z_intb (q : Q (.int (if b then 1 else 0)) H) : cInt1 [.bl b] H Q := .inr ⟨b, rfl, q⟩
theorem z_max2 (q : Q (.int (if j > i then j else i)) H) : cMax2 [.int i, .int j] H Q := ⟨i, j, rfl, q⟩
theorem z_min2 (q : Q (.int (if j < i then j else i)) H) : cMin2 [.int i, .int j] H Q := ⟨i, j, rfl, q⟩
theorem z_revL (q : te σ H fun x H1 => ∃ a xs, x = .ref a ∧ SqL K H1 a xs ∧ ∀ p, H1 p = none → Q (.ref p) (upd H1 p (.lst xs.reverse))) : tRevL K te σ H Q := q
theorem z_revL1 (h : SqL K H a xs) (q : ∀ p, H p = none → Q (.ref p) (upd H p (.lst xs.reverse))) : ∃ a' xs', V.ref a = .ref a' ∧ SqL K H a' xs' ∧ ∀ p, H p = none → Q (.ref p) (upd H p (.lst xs'.reverse)) := ⟨a, xs, rfl, h, q⟩
theorem z_isi {T U : String} (h : TyX K H x (.type T)) (e : PySem.W.kitOne K (.type T) (.type U) = some b) (q : Q (.bl b) H) : rIsi K [x, .ty U] H Q := ⟨x, _, _, _, b, rfl, .ty U, h, e, q⟩
theorem z_dnew (q : ∀ p, H p = none → Q (.ref p) (upd H p (.dK []))) : tDNewK σ H Q := q
theorem z_isbl {c d : Bool} (q : Q (.bl (decide (c = d))) H) : rIsBl (.bl c) (.bl d) H Q := ⟨c, d, rfl, rfl, q⟩
theorem z_notbl {c d : Bool} (q : Q (.bl (!decide (c = d))) H) : rNotBl (.bl c) (.bl d) H Q := ⟨c, d, rfl, rfl, q⟩
theorem z_mulS {n : Int} (h : MulOk s n) (q : Q (.str (Txt.mul s n)) H) : rMulStr (.str s) (.int n) H Q := ⟨s, n, rfl, rfl, h, q⟩
theorem z_strI (h : i.natAbs.log2 < 1920) (q : Q (.str (toString i)) H) : cStrInt [.int i] H Q := ⟨i, rfl, h, q⟩
theorem z_nopart (q : QO none H) : tNoPart σ H QO := q
theorem z_part (q : te σ H fun x H1 => ∃ i, x = .int i ∧ QO (some i) H1) : tPart te σ H QO := q
theorem z_part1 {R : Int → Prop} (q : R i) : ∃ j, V.int i = .int j ∧ R j := ⟨i, rfl, q⟩
theorem z_sl {r : V → Option Int → Option Int → Hp → VK → Prop} (q : te σ H fun x H1 => tl σ H1 fun l H2 => th σ H2 fun u H3 => r x l u H3 Q) : tSl r te tl th σ H Q := q
theorem z_slL {lo hi : Option Int} (h : SqL K H a xs) (q : ∀ p, H p = none → Q (.ref p) (upd H p (.lst (cutV xs lo hi)))) : rSlL K (.ref a) lo hi H Q := ⟨a, xs, rfl, h, q⟩
theorem z_slS {lo hi : Option Int} (h : z.length ≤ sizeLine) (q : Q (.str (cutS z lo hi)) H) : rSlS (.str z) lo hi H Q := ⟨z, rfl, h, q⟩
theorem z_chain {r r' : R2} (q : ta σ H fun x H1 => tb σ H1 fun y H2 => r x y H2 fun z H3 => ∃ k, z = .bl k ∧ if k = true then tc σ H3 fun w' H4 => r' y w' H4 Q else Q (.bl false) H3) : tChain r r' ta tb tc σ H Q := q

/-! ### truth -/
theorem z_test (q : te σ H fun x H' => ∃ k, x = .bl k ∧ QB k H') : tTest te σ H QB := q
theorem z_tB (q : te σ H fun x H' => ∃ k, x = .bl k ∧ QB k H') : tB te σ H QB := q
theorem z_bl {R : Bool → Prop} (q : R b) : ∃ k, V.bl b = .bl k ∧ R k := ⟨b, rfl, q⟩
theorem z_tru (q : ta σ H fun x H' => ∃ k, TruV K x H' k ∧ QB k H') : tTru K ta σ H QB := q
theorem z_trub {R : Bool → Prop} (q : R b) : ∃ k, TruV K (.bl b) H k ∧ R k := ⟨b, rfl, q⟩
theorem z_trui {R : Bool → Prop} (q : R (i != 0)) : ∃ k, TruV K (.int i) H k ∧ R k := ⟨_, rfl, q⟩
theorem z_trun {R : Bool → Prop} (q : R false) : ∃ k, TruV K .non H k ∧ R k := ⟨_, rfl, q⟩
theorem z_trul {R : Bool → Prop} (h : SqL K H a xs) (q : R (!xs.isEmpty)) : ∃ k, TruV K (.ref a) H k ∧ R k := ⟨_, .inl ⟨xs, h, rfl⟩, q⟩
theorem z_and (q : t σ H fun c H1 => if c = true then u σ H1 QB else QB false H1) : tAnd t u σ H QB := q
theorem z_or (q : t σ H fun c H1 => if c = true then QB true H1 else u σ H1 QB) : tOr t u σ H QB := q
theorem z_not (q : t σ H fun c H1 => QB (!c) H1) : tNot t σ H QB := q
theorem z_yes (q : QB true H) : tYes σ H QB := q
theorem ite_t {A B : Prop} (q : A) : if true = true then A else B := by rw [if_pos rfl]; exact q
theorem ite_f {A B : Prop} (q : B) : if false = true then A else B := by rw [if_neg Bool.false_ne_true]; exact q
theorem ite_b {A B : Prop} (h1 : b = true → A) (h2 : b = false → B) : if b = true then A else B := by
  cases b with
  | true => exact ite_t (h1 rfl)
  | false => exact ite_f (h2 rfl)

/-! ### statements -/
theorem z_seq (q : ts { D with nx := tu D } σ H) : tSeq ts tu D σ H := q
theorem z_cut (Mid : L2.St → Hp → Prop) (h : ts { D with nx := Mid } σ H) (q : ∀ σ' H', Mid σ' H' → tu D σ' H') : Evl.tCut ts tu D σ H := ⟨Mid, h, q⟩
theorem z_next (q : D.nx σ H) : tNext D σ H := q
theorem z_ret (q : te σ H D.rt) : tRet te D σ H := q
theorem z_retN (q : D.rt .non H) : tRetN D σ H := q
theorem z_drop (q : te σ H fun _ H1 => D.nx σ H1) : tDrop te D σ H := q
theorem z_ifs (q : t σ H fun b H1 => if b = true then ts D σ H1 else tu D σ H1) : tIfS t ts tu D σ H := q
theorem z_asg (q : te σ H fun x H1 => g x σ H1 D.nx) : tAsg te g D σ H := q
theorem z_brk (q : D.bk σ H) : tBreak D σ H := q
theorem z_cont (q : D.ct σ H) : tCont D σ H := q
theorem z_gname {n : Nat} {QS : L2.St → Hp → Prop} (q : QS (σ.set n (some v)) H) : gName n v σ H QS := q
theorem z_aug {n : Nat} {f : Int → Int → Int} (h : σ[n]? = some (some (.int i))) (q : te σ H fun y H1 => ipI f (.int i) y H1 fun z H2 => D.nx (σ.set n (some z)) H2) : tAug n te (ipI f) D σ H := ⟨.int i, h, q⟩
theorem z_ipi {f : Int → Int → Int} (q : Q (.int (f i j)) H) : ipI f (.int i) (.int j) H Q := ⟨i, j, rfl, rfl, q⟩
theorem z_gtup2 {m n : Nat} {QS : L2.St → Hp → Prop} (h : SqT K H a [x, y]) (q : QS ((σ.set m (some x)).set n (some y)) H) : gTup K 2 (gCons (gName m) (gCons (gName n) gNil)) (.ref a) σ H QS := ⟨a, _, rfl, h, rfl, x, [y], rfl, y, [], rfl, rfl, q⟩
theorem z_bm {r : V → List V → Hp → VK → Prop} {T : String} (q : te σ H fun x H1 => tyV K T x H1 ∧ tr σ H1 fun xs H2 => r x xs H2 Q) : tBM K T r te tr σ H Q := q
theorem z_bm0 {r : V → List V → Hp → VK → Prop} {T : String} (q : te σ H fun x H1 => tyV K T x H1 ∧ r x [] H1 Q) : tBM0 K T r te σ H Q := q
theorem z_tyl {R : Prop} (h : SqL K H a xs) (q : R) : tyV K "list" (.ref a) H ∧ R := ⟨.inl ⟨rfl, xs, h⟩, q⟩
theorem z_tys {R : Prop} (q : R) : tyV K "str" (.str z) H ∧ R := ⟨rfl, q⟩
theorem z_rapp (h : H a = some (.lst xs)) (hz : xs.length < sizeLine) (q : Q .non (upd H a (.lst (xs ++ [v])))) : rAppend (.ref a) [v] H Q := ⟨a, xs, v, rfl, rfl, h, hz, q⟩
theorem z_rext {c : Addr} {ys : List V} (h : H a = some (.lst xs)) (h2 : H c = some (.lst ys)) (hz : xs.length + ys.length ≤ sizeLine) (q : Q .non (upd H a (.lst (xs ++ ys)))) : rExtend (.ref a) [.ref c] H Q := ⟨a, c, xs, ys, rfl, rfl, h, h2, hz, q⟩
theorem z_rpop (h : H a = some (.lst xs)) (e : xs[xs.length - 1]? = some v) (q : Q v (upd H a (.lst xs.dropLast))) : rPop (.ref a) [] H Q := ⟨a, xs, v, rfl, rfl, h, e, q⟩
end
/-! ### loops -/
def FW (J : It) (g : TG) (tb : TS) (D : Ends) (σ : L2.St) (H1 : Hp) : Prop := ∃ W : Nat → Nat → L2.St → Hp → Prop, (∃ m, W 0 m σ H1) ∧ ∀ i m σ H, W i m σ H →
  (J.stop i H ∧ D.nx σ H) ∨ (J.go i H ∧ ∃ N : L2.St → Hp → Prop, (∀ σ' H', N σ' H' → ∃ m', m' < m ∧ W (i + 1) m' σ' H') ∧ ∀ x H', J.yld i H x H' → g x σ H' fun σ2 H2 => tb { D with nx := N, ct := N, bk := D.nx } σ2 H2)
def FL (K : PySem.W.Frag) (g : TG) (tb : TS) (D : Ends) (σ : L2.St) (x : V) (H1 : Hp) : Prop := ∃ a, x = .ref a ∧ (∃ xs, SqL K H1 a xs) ∧ FW (Itl K a) g tb D σ H1
def FT (K : PySem.W.Frag) (g : TG) (tb : TS) (D : Ends) (σ : L2.St) (x : V) (H1 : Hp) : Prop := ∃ a, x = .ref a ∧ (∃ xs, SqT K H1 a xs) ∧ FW (Itt K a) g tb D σ H1
def FS (g : TG) (tb : TS) (D : Ends) (σ : L2.St) (v : V) (H1 : Hp) : Prop := ∃ x, v = .str x ∧ FW (Its x) g tb D σ H1
def FR1 (g : TG) (tb : TS) (D : Ends) (σ : L2.St) (vs : List V) (H1 : Hp) : Prop := ∃ j : Int, vs = [.int j] ∧ -(2 ^ 62) ≤ j ∧ j < 2 ^ 62 ∧ FW (Itr 0 j.toNat) g tb D σ H1
def FR2 (g : TG) (tb : TS) (D : Ends) (σ : L2.St) (vs : List V) (H1 : Hp) : Prop := ∃ i j : Int, vs = [.int i, .int j] ∧ (-(2 ^ 62) ≤ i ∧ i < 2 ^ 62 ∧ -(2 ^ 62) ≤ j ∧ j < 2 ^ 62) ∧ FW (Itr i (j - i).toNat) g tb D σ H1
def FZ (K : PySem.W.Frag) (g : TG) (tb : TS) (D : Ends) (σ : L2.St) (vs : List V) (H1 : Hp) : Prop := ∃ a b xs ys, vs = [.ref a, .ref b] ∧ SqL K H1 a xs ∧ SqL K H1 b ys ∧ FW (Itz K a b) g tb D σ H1
def FE (K : PySem.W.Frag) (g : TG) (tb : TS) (D : Ends) (σ : L2.St) (vs : List V) (H1 : Hp) : Prop := ∃ a xs, vs = [.ref a] ∧ SqL K H1 a xs ∧ FW (Ite K a) g tb D σ H1
section
variable {K : PySem.W.Frag} {σ : L2.St} {H : Hp} {D : Ends} {g : TG} {tb tu : TS} {te : TE} {ta : TA} {a b : Addr} {xs ys : List V}
theorem z_fl (q : te σ H fun x H1 => FL K g tb D σ x H1) : tFor (iList K te) g tb D σ H := q
theorem z_ft (q : te σ H fun x H1 => FT K g tb D σ x H1) : tFor (iTup K te) g tb D σ H := q
theorem z_fs (q : te σ H fun x H1 => FS g tb D σ x H1) : tFor (iStr te) g tb D σ H := q
theorem z_fr1 (q : ta σ H fun x H1 => FR1 g tb D σ x H1) : tFor (iRng1 ta) g tb D σ H := q
theorem z_fr2 (q : ta σ H fun x H1 => FR2 g tb D σ x H1) : tFor (iRng2 ta) g tb D σ H := q
theorem z_fz (q : ta σ H fun x H1 => FZ K g tb D σ x H1) : tFor (iZip K ta) g tb D σ H := q
theorem z_fe (q : ta σ H fun x H1 => FE K g tb D σ x H1) : tFor (iEnum K ta) g tb D σ H := q
/-- over a list: Pv by the turn, the slots, the heap -/
theorem z_FL (hx : SqL K H a xs) (Pv : Nat → L2.St → Hp → Prop) (h0 : Pv 0 σ H) (hG : ∀ i σ H, i ≤ xs.length → Pv i σ H → SqL K H a xs)
    (hs : ∀ i x σ H, i < xs.length → xs[i]? = some x → Pv i σ H → g x σ H fun σ2 H2 => tb { D with nx := Pv (i + 1), ct := Pv (i + 1), bk := D.nx } σ2 H2) (hd : ∀ σ H, Pv xs.length σ H → D.nx σ H) : FL K g tb D σ (.ref a) H :=
  ⟨a, rfl, ⟨xs, hx⟩, for_it walk_list Pv h0 hG (fun i x σ H H' hi p y => by
    obtain ⟨rfl, e⟩ := y
    exact hs i x σ _ hi e p) hd⟩
theorem z_FT (hx : SqT K H a xs) (Pv : Nat → L2.St → Hp → Prop) (h0 : Pv 0 σ H) (hG : ∀ i σ H, i ≤ xs.length → Pv i σ H → SqT K H a xs)
    (hs : ∀ i x σ H, i < xs.length → xs[i]? = some x → Pv i σ H → g x σ H fun σ2 H2 => tb { D with nx := Pv (i + 1), ct := Pv (i + 1), bk := D.nx } σ2 H2) (hd : ∀ σ H, Pv xs.length σ H → D.nx σ H) : FT K g tb D σ (.ref a) H :=
  ⟨a, rfl, ⟨xs, hx⟩, for_it walk_tup Pv h0 hG (fun i x σ H H' hi p y => by
    obtain ⟨rfl, e⟩ := y
    exact hs i x σ _ hi e p) hd⟩
theorem z_FS {z : Str} (Pv : Nat → L2.St → Hp → Prop) (h0 : Pv 0 σ H)
    (hs : ∀ i (c : Nat) σ H, i < z.cps.size → z.cps[i]? = some c → Pv i σ H → g (.str ⟨#[c]⟩) σ H fun σ2 H2 => tb { D with nx := Pv (i + 1), ct := Pv (i + 1), bk := D.nx } σ2 H2) (hd : ∀ σ H, Pv z.cps.size σ H → D.nx σ H) : FS g tb D σ (.str z) H :=
  ⟨z, rfl, for_it walk_str Pv h0 (fun _ _ _ _ _ => trivial) (fun i x σ H H' hi p y => by
    obtain ⟨rfl, c, e, rfl⟩ := y
    exact hs i c σ _ hi e p) hd⟩
theorem z_FR1 {n : Int} (hn : -(2 ^ 62) ≤ n ∧ n < 2 ^ 62) (Pv : Nat → L2.St → Hp → Prop) (h0 : Pv 0 σ H)
    (hs : ∀ (i : Nat) σ H, i < n.toNat → Pv i σ H → g (.int (i : Int)) σ H fun σ2 H2 => tb { D with nx := Pv (i + 1), ct := Pv (i + 1), bk := D.nx } σ2 H2) (hd : ∀ σ H, Pv n.toNat σ H → D.nx σ H) : FR1 g tb D σ [.int n] H :=
  ⟨n, rfl, hn.1, hn.2, for_it walk_range Pv h0 (fun _ _ _ _ _ => trivial) (fun i x σ H H' hi p y => by
    obtain ⟨rfl, rfl⟩ := y
    show g (.int (0 + (i : Int))) σ H' _
    rw [Int.zero_add]
    exact hs i σ _ hi p) hd⟩
theorem z_FZ {n : Nat} (hn : n = min xs.length ys.length) (hx : SqL K H a xs) (hy : SqL K H b ys) (Pv : Nat → L2.St → Hp → Prop) (h0 : Pv 0 σ H) (hG : ∀ i σ H, i ≤ n → Pv i σ H → SqL K H a xs ∧ SqL K H b ys)
    (hs : ∀ i x y p σ H H', i < n → xs[i]? = some x → ys[i]? = some y → Pv i σ H → Ex H H' → H p = none → H' = upd H p (.tup [x, y]) → g (.ref p) σ H' fun σ2 H2 => tb { D with nx := Pv (i + 1), ct := Pv (i + 1), bk := D.nx } σ2 H2) (hd : ∀ σ H, Pv n σ H → D.nx σ H) : FZ K g tb D σ [.ref a, .ref b] H :=
  ⟨a, b, xs, ys, rfl, hx, hy, for_it (walk_zip hn) Pv h0 hG (fun i x σ H H' hi p y => by
    obtain ⟨T, u, v, rfl, e1, rfl, e3, e4⟩ := y
    exact hs i u v T σ _ _ hi e3 e4 p (Ex.new e1) e1 rfl) hd⟩
theorem z_FE (hx : SqL K H a xs) (Pv : Nat → L2.St → Hp → Prop) (h0 : Pv 0 σ H) (hG : ∀ i σ H, i ≤ xs.length → Pv i σ H → SqL K H a xs)
    (hs : ∀ i x p σ H H', i < xs.length → xs[i]? = some x → Pv i σ H → Ex H H' → H p = none → H' = upd H p (.tup [.int (i : Nat), x]) → g (.ref p) σ H' fun σ2 H2 => tb { D with nx := Pv (i + 1), ct := Pv (i + 1), bk := D.nx } σ2 H2) (hd : ∀ σ H, Pv xs.length σ H → D.nx σ H) : FE K g tb D σ [.ref a] H :=
  ⟨a, xs, rfl, hx, for_it walk_enum Pv h0 hG (fun i x σ H H' hi p y => by
    obtain ⟨T, u, v, rfl, e1, rfl, e3, e4⟩ := y
    cases e3
    exact hs i v T σ _ _ hi e4 p (Ex.new e1) e1 rfl) hd⟩
theorem z_while {tc : TT} (W : Nat → L2.St → Hp → Prop) (m : Nat) (h0 : W m σ H) (hs : ∀ m σ H, W m σ H → tc σ H fun b H1 => if b = true then ∃ N : L2.St → Hp → Prop, (∀ σ' H', N σ' H' → ∃ m', m' < m ∧ W m' σ' H') ∧ tb { D with nx := N, ct := N, bk := D.nx } σ H1 else D.nx σ H1) : tWhile tc tb D σ H := ⟨W, ⟨m, h0⟩, hs⟩
end
/-! ### comprehensions -/
def CW (J : It) (g : TG) (tt : TT) (te : TE) (vs : List Nat) (σ : L2.St) (H1 : Hp) (Q : VK) : Prop := ∀ D, H1 D = none → ∃ W : Nat → Nat → Hp → Prop, (∃ m, W 0 m (upd H1 D (.lst []))) ∧ ∀ i m H, W i m H →
  (J.stop i H ∧ Q (.ref D) H) ∨ (J.go i H ∧ ∃ Nx : Hp → Prop, (∀ H', Nx H' → ∃ m', m' < m ∧ W (i + 1) m' H') ∧ ∀ x H', J.yld i H x H' → g x (wipe σ vs) H' fun σ2 H2 => wipe σ2 vs = wipe σ vs ∧ tt σ2 H2 fun b H3 =>
    if b = true then te σ2 H3 fun y H4 => ∃ acc, H4 D = some (.lst acc) ∧ acc.length < sizeLine ∧ Nx (upd H4 D (.lst (acc ++ [y]))) else Nx H3)
def CL (K : PySem.W.Frag) (g : TG) (tt : TT) (te : TE) (vs : List Nat) (σ : L2.St) (x : V) (H1 : Hp) (Q : VK) : Prop := ∃ a, x = .ref a ∧ (∃ xs, SqL K H1 a xs) ∧ CW (Itl K a) g tt te vs σ H1 Q
def CS (g : TG) (tt : TT) (te : TE) (vs : List Nat) (σ : L2.St) (x : V) (H1 : Hp) (Q : VK) : Prop := ∃ z, x = .str z ∧ CW (Its z) g tt te vs σ H1 Q
def CR1 (g : TG) (tt : TT) (te : TE) (vs : List Nat) (σ : L2.St) (xs : List V) (H1 : Hp) (Q : VK) : Prop := ∃ j : Int, xs = [.int j] ∧ -(2 ^ 62) ≤ j ∧ j < 2 ^ 62 ∧ CW (Itr 0 j.toNat) g tt te vs σ H1 Q
def CRv (g : TG) (tt : TT) (te : TE) (vs : List Nat) (σ : L2.St) (x : V) (H1 : Hp) (Q : VK) : Prop := ∃ n : Int, x = .int n ∧ (-(2 ^ 62) ≤ (0 : Int) ∧ (0 : Int) < 2 ^ 62 ∧ -(2 ^ 62) ≤ n ∧ n < 2 ^ 62 ∧ CW (Itc (0 + (((n - 0).toNat : Nat) : Int) - 1) (-1) (n - 0).toNat) g tt te vs σ H1 Q)
section
variable {K : PySem.W.Frag} {σ : L2.St} {H : Hp} {Q : VK} {g : TG} {tt : TT} {te tl : TE} {ta : TA} {vs : List Nat} {a : Addr} {xs : List V} {J : It} {n j : Nat} {G : Hp → Prop}
theorem z_cl (q : tl σ H fun x H1 => CL K g tt te vs σ x H1 Q) : tLc (iList K tl) g tt te vs σ H Q := q
theorem z_cs (q : tl σ H fun x H1 => CS g tt te vs σ x H1 Q) : tLc (iStr tl) g tt te vs σ H Q := q
theorem z_cr1 (q : ta σ H fun x H1 => CR1 g tt te vs σ x H1 Q) : tLc (iRng1 ta) g tt te vs σ H Q := q
theorem z_crv (q : tl σ H fun x H1 => CRv g tt te vs σ x H1 Q) : tLc (iRevR (tRg1 tl)) g tt te vs σ H Q := q
/-- things without objects of their own -/
theorem z_CW {X : Nat → V} (w : Walk J n G (fun i H x H' => H' = H ∧ x = X i)) (hn : n ≤ 40000) (hG : ∀ H', Ex H H' → G H') (f : Nat → Bool) (v : Nat → V) (hw : ∀ x, wipe ((wipe σ vs).set j (some x)) vs = wipe σ vs)
    (ht : ∀ i H', i < n → Ex H H' → Evl.EvT tt ((wipe σ vs).set j (some (X i))) H' (f i)) (he : ∀ i H', i < n → Ex H H' → f i = true → Evl.Ev te ((wipe σ vs).set j (some (X i))) H' (v i))
    (q : ∀ p H2, H p = none → Ex H H2 → H2 p = some (.lst (Evl.given n f v)) → Q (.ref p) H2) : CW J (gName j) tt te vs σ H Q := fun Dl hD =>
  lc_it w (Evl.Cw H f v Dl) ⟨hD, Ex.new hD, upd_same⟩ (fun _ _ _ p => hG _ p.2.1) (fun i x H1 H2 hi p y => by
    obtain ⟨rfl, rfl⟩ := y
    exact ⟨hw _, Evl.cw_turn p (by omega) (ht i H hi (Ex.refl H)) (fun hf => he i H hi (Ex.refl H) hf)⟩) (fun H' p => q Dl H' p.1 p.2.1 p.2.2)
theorem z_CL (hx : SqL K H a xs) (hz : xs.length ≤ 40000) (f : Nat → Bool) (v : Nat → V) (hw : ∀ x, wipe ((wipe σ vs).set j (some x)) vs = wipe σ vs)
    (ht : ∀ i x H', i < xs.length → xs[i]? = some x → Ex H H' → Evl.EvT tt ((wipe σ vs).set j (some x)) H' (f i)) (he : ∀ i x H', i < xs.length → xs[i]? = some x → Ex H H' → f i = true → Evl.Ev te ((wipe σ vs).set j (some x)) H' (v i))
    (q : ∀ p H2, H p = none → Ex H H2 → H2 p = some (.lst (Evl.given xs.length f v)) → Q (.ref p) H2) : CL K (gName j) tt te vs σ (.ref a) H Q :=
  ⟨a, rfl, ⟨xs, hx⟩, z_CW (X := fun i => xs.getD i .non) (walk_list.mono (fun _ h => h) (fun i H x H' _ _ y => ⟨y.1, by rw [List.getD_eq_getElem?_getD, y.2] <;> rfl⟩)) hz (fun _ e => ex_l e hx) f v hw
    (fun i H' hi e => ht i _ H' hi (by rw [List.getD_eq_getElem?_getD, List.getElem?_eq_getElem hi] <;> rfl) e) (fun i H' hi e hf => he i _ H' hi (by rw [List.getD_eq_getElem?_getD, List.getElem?_eq_getElem hi] <;> rfl) e hf) q⟩
theorem z_CR1 {m : Int} (hn : 0 ≤ m ∧ m ≤ 40000) (f : Nat → Bool) (v : Nat → V) (hw : ∀ x, wipe ((wipe σ vs).set j (some x)) vs = wipe σ vs)
    (ht : ∀ (i : Nat) H', i < m.toNat → Ex H H' → Evl.EvT tt ((wipe σ vs).set j (some (.int (i : Int)))) H' (f i)) (he : ∀ (i : Nat) H', i < m.toNat → Ex H H' → f i = true → Evl.Ev te ((wipe σ vs).set j (some (.int (i : Int)))) H' (v i))
    (q : ∀ p H2, H p = none → Ex H H2 → H2 p = some (.lst (Evl.given m.toNat f v)) → Q (.ref p) H2) : CR1 (gName j) tt te vs σ [.int m] H Q :=
  ⟨m, rfl, by omega, by omega, z_CW (X := fun i => .int (i : Int)) (walk_range.mono (fun _ h => h) (fun i H x H' _ _ y => ⟨y.1, by rw [y.2]; show V.int (0 + (i : Int)) = _; rw [Int.zero_add]⟩)) (by omega) (fun _ _ => trivial) f v hw ht he q⟩
theorem z_CRv {m : Nat} (hn : m ≤ 40000) (f : Nat → Bool) (v : Nat → V) (hw : ∀ x, wipe ((wipe σ vs).set j (some x)) vs = wipe σ vs)
    (ht : ∀ (i : Nat) H', i < m → Ex H H' → Evl.EvT tt ((wipe σ vs).set j (some (.int ((m - 1 - i : Nat) : Int)))) H' (f i)) (he : ∀ (i : Nat) H', i < m → Ex H H' → f i = true → Evl.Ev te ((wipe σ vs).set j (some (.int ((m - 1 - i : Nat) : Int)))) H' (v i))
    (q : ∀ p H2, H p = none → Ex H H2 → H2 p = some (.lst (Evl.given m f v)) → Q (.ref p) H2) : CRv (gName j) tt te vs σ (.int (m : Int)) H Q := by
  refine ⟨m, rfl, by decide, by decide, by omega, by omega, ?_⟩
  have e : ((m : Int) - 0).toNat = m := by omega
  rw [e]
  exact z_CW (X := fun i => .int ((m - 1 - i : Nat) : Int)) (walk_rangeC.mono (fun _ h => h) (fun i H x H' hi _ y => ⟨y.1, by
    rw [y.2]
    show V.int (0 + (m : Int) - 1 + (i : Int) * -1) = _
    congr 1
    omega⟩)) hn (fun _ _ => trivial) f v hw ht he q
theorem z_CS {z : Str} (hz : z.cps.size ≤ 40000) (f : Nat → Bool) (v : Nat → V) (hw : ∀ x, wipe ((wipe σ vs).set j (some x)) vs = wipe σ vs)
    (ht : ∀ i (c : Nat) H', i < z.cps.size → z.cps[i]? = some c → Ex H H' → Evl.EvT tt ((wipe σ vs).set j (some (.str ⟨#[c]⟩))) H' (f i)) (he : ∀ i (c : Nat) H', i < z.cps.size → z.cps[i]? = some c → Ex H H' → f i = true → Evl.Ev te ((wipe σ vs).set j (some (.str ⟨#[c]⟩))) H' (v i))
    (q : ∀ p H2, H p = none → Ex H H2 → H2 p = some (.lst (Evl.given z.cps.size f v)) → Q (.ref p) H2) : CS (gName j) tt te vs σ (.str z) H Q :=
  ⟨z, rfl, z_CW (X := fun i => .str ⟨#[z.cps.getD i 0]⟩) (walk_str.mono (fun _ h => h) (fun i H x H' _ _ y => by
      obtain ⟨e, c, e2, e3⟩ := y
      refine ⟨e, ?_⟩
      rw [e3]; congr 2; simp [Array.getD_eq_getD_getElem?, e2])) hz (fun _ _ => trivial) f v hw
    (fun i H' hi e => ht i _ H' hi (by simp [hi]) e) (fun i H' hi e hf => he i _ H' hi (by simp [hi]) e hf) q⟩
end
end Z
/-! ### data without truths: == is = -/
namespace Z
open PySem PySem.Spec PyProof.Rows L2
mutual
def cl : PyData → Bool
  | .none => true
  | .int _ => true
  | .str x => PyData.canLay0 (.str x)
  | .list xs => clAll xs
  | .tuple xs => clAll xs
  | .bool _ => false
  | .dict _ => false
def clAll : List PyData → Bool
  | [] => true
  | x :: xs => cl x && clAll xs
end
mutual
theorem cl_lay : ∀ d, cl d = true → d.canLay0 = true
  | .none, _ => rfl
  | .int _, _ => rfl
  | .str _, h => h
  | .list xs, h => clAll_lay xs h
  | .tuple xs, h => clAll_lay xs h
  | .bool _, h => by cases h
  | .dict _, h => by cases h
theorem clAll_lay : ∀ xs, clAll xs = true → PyData.canLayAll0 xs = true
  | [], _ => rfl
  | x :: xs, h => by
    have h' := Bool.and_eq_true_iff.mp (show (cl x && clAll xs) = true from h)
    show (x.canLay0 && PyData.canLayAll0 xs) = true
    rw [cl_lay x h'.1, clAll_lay xs h'.2] <;> rfl
end
mutual
theorem eqv_cl : ∀ d e : PyData, cl d = true → cl e = true → PyData.eqv d e = true → d = e
  | .none, e, _, he, h => by cases e <;> first | rfl | cases h
  | .int i, e, _, he, h => by
    cases e with
    | int j => rw [eq_of_beq (show (i == j) = true from h)]
    | bool _ => cases he
    | _ => cases h
  | .str x, e, _, he, h => by
    cases e with
    | str y => rw [eq_of_beq (show (x == y) = true from h)]
    | _ => cases h
  | .list xs, e, hd, he, h => by
    cases e with
    | list ys => rw [eqvAll_cl xs ys hd he h]
    | _ => cases h
  | .tuple xs, e, hd, he, h => by
    cases e with
    | tuple ys => rw [eqvAll_cl xs ys hd he h]
    | _ => cases h
  | .bool _, _, hd, _, _ => by cases hd
  | .dict _, _, hd, _, _ => by cases hd
theorem eqvAll_cl : ∀ xs ys : List PyData, clAll xs = true → clAll ys = true → PyData.eqvAll xs ys = true → xs = ys
  | [], [], _, _, _ => rfl
  | [], _ :: _, _, _, h => by cases h
  | _ :: _, [], _, _, h => by cases h
  | x :: xs, y :: ys, hd, he, h => by
    have h1 := Bool.and_eq_true_iff.mp (show (cl x && clAll xs) = true from hd)
    have h2 := Bool.and_eq_true_iff.mp (show (cl y && clAll ys) = true from he)
    have h3 := Bool.and_eq_true_iff.mp (show (PyData.eqv x y && PyData.eqvAll xs ys) = true from h)
    rw [eqv_cl x y h1.1 h2.1 h3.1, eqvAll_cl xs ys h1.2 h2.2 h3.2]
end
theorem eqv_iff {d e : PyData} (hd : cl d = true) (he : cl e = true) : PyData.eqv d e = true ↔ d = e :=
  ⟨eqv_cl d e hd he, fun h => by
    rw [h]
    exact SeqAt.eqv_refl e (cl_lay e he)⟩
theorem shaped_cl {d : PyData} (hd : cl d = true) (h : d.depth ≤ 64) : SeqAt.shaped d = true := Bool.and_eq_true_iff.mpr ⟨cl_lay d hd, decide_eq_true h⟩
section
variable {K : PySem.W.Frag} {H : Hp} {Q : VK} {x y : V} {d e : PyData}
/-- == over such data -/
theorem z_eqD {b : Bool} (hx : Dp K H x d) (hy : Dp K H y e) (cd : cl d = true) (ce : cl e = true) (dd : d.depth ≤ 64) (de : e.depth ≤ 64) (hb : b = true ↔ d = e) (q : Q (.bl b) H) : rEqD K x y H Q := by
  refine ⟨d, e, hx, hy, shaped_cl cd dd, shaped_cl ce de, ?_⟩
  have e2 : PyData.eqv d e = b := by
    have h := eqv_iff cd ce
    cases hb2 : PyData.eqv d e with
    | true => exact (hb.mpr (h.mp hb2)).symm
    | false =>
      cases b with
      | false => rfl
      | true => exact absurd (h.mpr (hb.mp rfl)) (by rw [hb2]; decide)
  rw [e2]
  exact q
theorem z_neD {b : Bool} (hx : Dp K H x d) (hy : Dp K H y e) (cd : cl d = true) (ce : cl e = true) (dd : d.depth ≤ 64) (de : e.depth ≤ 64) (hb : b = true ↔ d = e) (q : Q (.bl (!b)) H) : rNeD K x y H Q := by
  refine ⟨d, e, hx, hy, shaped_cl cd dd, shaped_cl ce de, ?_⟩
  have e2 : PyData.eqv d e = b := by
    have h := eqv_iff cd ce
    cases hb2 : PyData.eqv d e with
    | true => exact (hb.mpr (h.mp hb2)).symm
    | false =>
      cases b with
      | false => rfl
      | true => exact absurd (h.mpr (hb.mp rfl)) (by rw [hb2]; decide)
  rw [e2]
  exact q
theorem dp_ints : ∀ l : List Int, DpAll K H (l.map V.int) (l.map PyData.int)
  | [] => .nil
  | i :: l => .cons (.int i) (dp_ints l)
theorem cl_ints : ∀ l : List Int, clAll (l.map PyData.int) = true
  | [] => rfl
  | _ :: l => cl_ints l
theorem depth_ints : ∀ l : List Int, PyData.depthAll (l.map PyData.int) = 0
  | [] => rfl
  | i :: l => by
    show max 0 (PyData.depthAll (l.map PyData.int)) = 0
    rw [depth_ints l] <;> rfl
theorem ints_inj {l m : List Int} (h : l.map PyData.int = m.map PyData.int) : l = m := by
  have e := congrArg (List.map fun d => match d with
    | PyData.int i => i
    | _ => 0) h
  rw [List.map_map, List.map_map] at e
  have f : ∀ l : List Int, List.map ((fun d => match d with
    | PyData.int i => i
    | _ => 0) ∘ PyData.int) l = l := fun l => by
    induction l with
    | nil => rfl
    | cons a l ih => rw [List.map_cons, ih] <;> rfl
  rw [f, f] at e
  exact e
theorem z_eqL {a c : Addr} {l m : List Int} {b : Bool} (hx : SqL K H a (l.map V.int)) (hy : SqL K H c (m.map V.int)) (hb : b = true ↔ l = m) (q : Q (.bl b) H) : rEqD K (.ref a) (.ref c) H Q :=
  z_eqD (.lst hx (dp_ints l)) (.lst hy (dp_ints m)) (cl_ints l) (cl_ints m) (by show PyData.depthAll _ + 1 ≤ 64; rw [depth_ints]; decide) (by show PyData.depthAll _ + 1 ≤ 64; rw [depth_ints]; decide)
    (hb.trans ⟨fun h => by rw [h], fun h => ints_inj (by injection h)⟩) q
end
end Z
/-! ### texts as lists of signs -/
namespace Z
open PySem PySem.Spec PyProof.Rows L2
open Evl (Ex ex_l ex_t ex_rd sq_of st_of fresh_back)
def S (l : List Nat) : Str := ⟨l.toArray⟩
theorem S_len (l : List Nat) : (S l).length = l.length := by
  show l.toArray.size = _
  simp
theorem S_size (l : List Nat) : (S l).cps.size = l.length := S_len l
theorem S_tl (l : List Nat) : (S l).cps.toList = l := by
  show l.toArray.toList = l
  simp
theorem S_of (s : Str) : s = S s.cps.toList := by
  cases s with
  | mk a => simp [S]
theorem S_app (l m : List Nat) : S l ++ S m = S (l ++ m) := by
  show (⟨l.toArray ++ m.toArray⟩ : Str) = ⟨(l ++ m).toArray⟩
  simp
theorem S_inj {l m : List Nat} (h : S l = S m) : l = m := by rw [← S_tl l, h, S_tl]
theorem S_iff {l m : List Nat} : S l = S m ↔ l = m := ⟨S_inj, fun h => by rw [h]⟩
theorem S_get (l : List Nat) (i : Nat) : (S l).cps[i]? = l[i]? := by
  show l.toArray[i]? = _
  simp
/-- a slice by places -/
def cutL (l : List Nat) (lo hi : Option Int) : List Nat := (l.drop (HT.sIx l.length 0 lo)).take (HT.sIx l.length l.length hi - HT.sIx l.length 0 lo)
theorem S_cut (l : List Nat) (lo hi : Option Int) : cutS (S l) lo hi = S (cutL l lo hi) := by
  show (⟨(((S l).cps.toList.drop (HT.sIx (S l).length 0 lo)).take (HT.sIx (S l).length (S l).length hi - HT.sIx (S l).length 0 lo)).toArray⟩ : Str) = _
  rw [S_tl, S_len] <;> rfl
theorem cutL_to (l : List Nat) (n : Nat) : cutL l none (some (n : Int)) = l.take n := by
  unfold cutL
  rw [HT.sIx_none, HT.sIx_nat, List.drop_zero, Nat.sub_zero]
  by_cases h : n ≤ l.length
  · rw [Nat.min_eq_left h]
  · rw [Nat.min_eq_right (by omega), List.take_length, List.take_of_length_le (by omega)]
theorem cutL_from (l : List Nat) (n : Nat) : cutL l (some (n : Int)) none = l.drop n := by
  unfold cutL
  rw [HT.sIx_none, HT.sIx_nat]
  by_cases h : n ≤ l.length
  · rw [Nat.min_eq_left h, List.take_of_length_le (by rw [List.length_drop]; omega)]
  · rw [Nat.min_eq_right (by omega), List.drop_eq_nil_of_le (Nat.le_refl _), List.drop_eq_nil_of_le (by omega), List.take_nil]
theorem cutL_mid (l : List Nat) (m n : Nat) : cutL l (some (m : Int)) (some (n : Int)) = (l.drop m).take (n - m) := by
  unfold cutL
  rw [HT.sIx_nat, HT.sIx_nat]
  by_cases h : m ≤ l.length
  · rw [Nat.min_eq_left h]
    by_cases h2 : n ≤ l.length
    · rw [Nat.min_eq_left h2]
    · rw [Nat.min_eq_right (by omega), List.take_of_length_le (by rw [List.length_drop]; omega), List.take_of_length_le (by rw [List.length_drop]; omega)]
  · rw [List.drop_eq_nil_of_le (by omega), List.drop_eq_nil_of_le (by omega), List.take_nil, List.take_nil]
theorem cutS_le (s : Str) (lo hi : Option Int) : (cutS s lo hi).length ≤ s.length := cutS_length s lo hi
theorem join_S (ls : List (List Nat)) : Txt.join (S []) (ls.map S) = S ls.flatten := by
  rw [TL.join_eq, S_of (Str.join _ _)]
  congr 1
  show TL.tl (Str.join (S []) (ls.map S)) = _
  rw [TL.tl_join]
  have e : TL.tl (S []) = [] := rfl
  have f : ∀ ls : List (List Nat), (ls.map S).map TL.tl = ls := fun ls => by
    rw [List.map_map]
    refine (List.map_congr_left (g := id) fun l _ => S_tl l).trans (List.map_id _)
  rw [e, f]
  have g : ∀ ls : List (List Nat), TL.joinL [] ls = ls.flatten := fun ls => by
    induction ls with
    | nil => rfl
    | cons a r ih =>
      cases r with
      | nil => simp [TL.joinL]
      | cons b r => simp [TL.joinL, ih] at *
  exact g ls
theorem txt_app_len (s z : Str) : (s ++ z).length = s.length + z.length := by
  show (s.cps ++ z.cps).size = _
  rw [Array.size_append] <;> rfl
theorem mul_len (s : Str) (n : Int) (hn : 0 ≤ n) : (Txt.mul s n).length ≤ s.length * n.toNat := by
  unfold Txt.mul
  by_cases h : n < 1
  · rw [if_pos h]
    exact Nat.zero_le _
  · rw [if_neg h]
    by_cases h2 : (n == 1 || s.length == 0) = true
    · rw [if_pos h2]
      exact Nat.le_mul_of_pos_right _ (by omega)
    · rw [if_neg h2]
      show ((List.replicate n.toNat s.cps).foldl (· ++ ·) #[]).size ≤ _
      have g : ∀ (k : Nat) (a : Array Nat), ((List.replicate k s.cps).foldl (· ++ ·) a).size = a.size + s.length * k := fun k => by
        induction k with
        | zero => intro a; simp
        | succ k ih =>
          intro a
          rw [List.replicate_succ, List.foldl_cons, ih, Array.size_append, Nat.mul_succ]
          show a.size + s.cps.size + s.length * k = a.size + (s.length * k + s.cps.size)
          omega
      rw [g]
      simp
theorem mul_ok (s : Str) (n : Int) (h0 : 0 ≤ n) (hn : n ≤ 1000) (hs : s.length ≤ 1000) : MulOk s n := by
  refine ⟨by rw [decide_eq_false (by omega), decide_eq_false (by omega)] <;> rfl, fun h _ => ?_, fun h _ => ?_⟩
  · have : (2 ^ 63 - 1) / 1000 ≤ (2 ^ 63 - 1 : Int) / n := by
      rw [Int.le_ediv_iff_mul_le (by omega)]
      have : (2 ^ 63 - 1 : Int) / 1000 * n ≤ (2 ^ 63 - 1) / 1000 * 1000 := Int.mul_le_mul_of_nonneg_left hn (by decide)
      exact Int.le_trans this (by decide)
    have e : ((2 ^ 63 - 1 : Int)) / 1000 = 9223372036854775 := by decide
    omega
  · have : s.length * n.toNat ≤ 1000 * 1000 := Nat.mul_le_mul hs (by omega)
    show decide (s.length * n.toNat > sizeLine) = false
    exact decide_eq_false (by rw [sizeLine_eq]; omega)
end Z
/-! ### a head's facts and one test more -/
namespace Z
open PySem PySem.Spec PyProof.Rows L2 He
def lookZ (fa : List Fa) (fn : List DefD) (ex : PySem.W.Frag → Bool) (n : Nat) (g : Addr → Option Obj) : AlD × Bool :=
  (obsD fa fn (frG g (asD g n)), ex (frG g (asD g n)))
def hookZ (fa : List Fa) (fn : List DefD) (ex : PySem.W.Frag → Bool) (n : Nat) : PySem.W.Hook where
  α := AlD × Bool
  obs := fun st => lookZ fa fn ex n st.heap.get?
  val := fun _ => (valD fn, true)
  says := fun _ hp => ∃ F : PySem.W.Frag, F.In hp ∧ SaysD fa fn F ∧ ex F = true
  of := fun _ _ eq => ⟨_, frG_in, congrArg Prod.fst eq, congrArg Prod.snd eq⟩
  keeps := fun _ _ _ ⟨F, hF, cF, xF⟩ kp => ⟨F, PySem.W.Frag.In.keeps hF kp, cF, xF⟩
theorem lookZ_eq {fa : List Fa} {fn : List DefD} {ex : PySem.W.Frag → Bool} {n : Nat} {g : Addr → Option Obj} {st : Shared} (hg : ∀ a, g a = st.heap.get? a) : lookZ fa fn ex n g = (hookZ fa fn ex n).obs st := by
  have e : g = st.heap.get? := funext hg
  subst e
  rfl
end Z
/-! ### data, an elder heap's -/
namespace Z
open PySem PySem.Spec PyProof.Rows L2
open Evl (Ex ex_l ex_t ex_rd sq_of st_of fresh_back)
mutual
theorem dp_mono {K : PySem.W.Frag} {H H' : Hp} (e : Ex H H') : ∀ {v : V} {d : PyData}, Dp K H v d → Dp K H' v d
  | _, _, .non => .non
  | _, _, .bl b => .bl b
  | _, _, .int i => .int i
  | _, _, .str x => .str x
  | _, _, .lst s a => .lst (ex_l e s) (dpAll_mono e a)
  | _, _, .tup s a => .tup (ex_t e s) (dpAll_mono e a)
theorem dpAll_mono {K : PySem.W.Frag} {H H' : Hp} (e : Ex H H') : ∀ {vs : List V} {ds : List PyData}, DpAll K H vs ds → DpAll K H' vs ds
  | _, _, .nil => .nil
  | _, _, .cons a r => .cons (dp_mono e a) (dpAll_mono e r)
end
theorem dpAll_app {K : PySem.W.Frag} {H : Hp} : ∀ {vs us : List V} {ds es : List PyData}, DpAll K H vs ds → DpAll K H us es → DpAll K H (vs ++ us) (ds ++ es)
  | _, _, _, _, .nil, b => b
  | _, _, _, _, .cons a r, b => .cons a (dpAll_app r b)
theorem dpAll_len {K : PySem.W.Frag} {H : Hp} : ∀ {vs : List V} {ds : List PyData}, DpAll K H vs ds → vs.length = ds.length
  | _, _, .nil => rfl
  | _, _, .cons _ r => by rw [List.length_cons, List.length_cons, dpAll_len r]
theorem dpAll_get {K : PySem.W.Frag} {H : Hp} : ∀ {vs : List V} {ds : List PyData} {i : Nat} {v : V}, DpAll K H vs ds → vs[i]? = some v → ∃ d, ds[i]? = some d ∧ Dp K H v d
  | _, _, _, _, .nil, h => by simp at h
  | _, _, 0, _, .cons a _, h => by
    cases h
    exact ⟨_, rfl, a⟩
  | _, _, i + 1, _, .cons _ r, h => dpAll_get (i := i) r h
theorem ty_tup {K : PySem.W.Frag} {H : Hp} {a : Addr} {xs : List V} (h : SqT K H a xs) : TyX K H (.ref a) (.type "tuple") := by
  rcases h with (h | ⟨o, h⟩) | ⟨o, its, n, h, hc, _⟩
  · exact .base (.tup h)
  · exact .fTuple h
  · exact .kTuple h hc
theorem ty_lst {K : PySem.W.Frag} {H : Hp} {a : Addr} {xs : List V} (h : SqL K H a xs) : TyX K H (.ref a) (.type "list") := by
  rcases h with (h | ⟨o, h⟩) | ⟨o, its, n, h, hc, _⟩
  · exact .base (.lst h)
  · exact .base (.frz h)
  · exact .kList h hc
/-- a new thing that bears data: I, what was known, grows to J -/
def RetD (K : PySem.W.Frag) (d : PyData) (I H : Hp) (Q : VK) : Prop :=
  ∀ v J H', Ex I J → Ex H H' → Ex J H' → (∀ a o, H a = some o → I a = none → J a = none) → Dp K J v d → Q v H'
/-- a new list of such things -/
def RetLD (K : PySem.W.Frag) (ds : List PyData) (H : Hp) (Q : VK) : Prop :=
  ∀ p xs H', H p = none → Ex H H' → H' p = some (.lst xs) → DpAll K H' xs ds → Q (.ref p) H'
/-- a new tuple over what is known -/
theorem RetD.tup {K : PySem.W.Frag} {ds : List PyData} {I H : Hp} {Q : VK} {p : Addr} {xs : List V} (q : RetD K (.tuple ds) I H Q) (e : Ex I H) (hp : H p = none) (h : DpAll K I xs ds) : Q (.ref p) (upd H p (.tup xs)) := by
  have ip : I p = none := fresh_back e hp
  refine q (.ref p) (upd I p (.tup xs)) _ (Ex.new ip) (Ex.new hp) (fun b o hb => ?_) (fun a o ha hI => ?_) (.tup (st_of upd_same) (dpAll_mono (Ex.new ip) h))
  · by_cases hbp : b = p
    · subst hbp
      rw [upd_same] at hb ⊢
      exact hb
    · rw [upd_ne hbp] at hb ⊢
      exact e b o hb
  · have ne : a ≠ p := fun z => by
      rw [z, hp] at ha
      cases ha
    rw [upd_ne ne]
    exact hI
end Z

set_option Elab.async false
set_option linter.all false
set_option maxRecDepth 100000
set_option maxHeartbeats 4000000
/-! Zc: methods and makings of own classes, in short steps. -/
namespace Z
open PySem PySem.Spec PyProof.Rows L2
/-- a method's text, as it stands behind the top -/
def DM (K : PySem.W.Frag) (C m qual : Str) (st : Stmt) : Prop := ∃ fd, FunD K m qual (defArgs st) (defBody st) (defScope st) [] [] (He.ma K (He.ga K C) m) fd
def inCls (st : Stmt) (j : Nat) : Stmt := match st with
  | .ClassDef (body := b) .. => b.getD j (.Pass ⟨0, 0, 0, 0⟩)
  | _ => .Pass ⟨0, 0, 0, 0⟩
structure CalM (P : Program) (w : World) (K : PySem.W.Frag) (mg : Str → Option Value) (base : Heap) (k : Nat) (C : Addr) (m : Str) (sp : Sp) : Prop where
  ex : ∃ (fd : FuncData) (ps : List Str), FnOk P w K mg base CX0 k (He.ma K C m) fd ps sp ∧ Cls K C ∧ Meth K C m (He.ma K C m) ∧ Binds K fd ps []
structure CalI (P : Program) (w : World) (K : PySem.W.Frag) (mg : Str → Option Value) (base : Heap) (k : Nat) (x : Str) (C : Addr) (sp : Sp) : Prop where
  ex : ∃ (fd : FuncData) (ps : List Str), FnOk P w K mg base CX0 k (He.ma K C "__init__") fd ps sp ∧ Mk K C (He.ma K C "__init__") ∧ mg x = some (.ref C) ∧ Binds K fd ps []
section
variable {P : Program} {w : World} {K : PySem.W.Frag} {mg : Str → Option Value} {base : Heap}
theorem fn_mk {C m qual : Str} {st : Stmt} {N ps : List Str} {k : Nat} {sp : Sp} {t : TS} (D : DM K C m qual st) (S : FnScope N ps (defScope st))
    (hb : ∀ (kV doc pm : Value) (an : Option Addr) (cdv ct : Value) (us : List Value), us.length = ps.length → bindArgs (PySem.W.fnOf m qual (defArgs st) (defBody st) (defScope st) .none kV doc pm an cdv ct) ⟨us, []⟩ = pure (ps.zip us))
    (len : ∀ vs H Q E, sp vs H Q E → vs.length = ps.length)
    (hd : ∀ (f : Addr) (cdv : Value) (A : Around) (outer : List Env) (s : Shared) (H : Hp) (E : XK), Room k (A.deeper (envOfC qual (defScope st) s.heap.objs.size f cdv)) → PSs (cxOf CX0 P w K mg base N qual (defScope st) f cdv A outer s H E).nox (defBody st) t)
    (hv : ∀ vs H Q E, sp vs H Q E → t { nx := fun _ H' => Q .non H', rt := Q } (start N vs) H) : ∃ fd, FnOk P w K mg base CX0 (k + 1) (He.ma K (He.ga K C) m) fd ps sp ∧ Binds K fd ps [] := by
  obtain ⟨fd, F⟩ := D
  exact ⟨fd, F.ok S len fun cdv A outer s H vs Q E hr h => ⟨t, PSs.nox (hd _ cdv A outer s H E hr), hv vs H Q E h⟩, F.bindsN hb⟩
theorem calM_mk {C m qual : Str} {st : Stmt} {N ps : List Str} {k : Nat} {sp : Sp} {t : TS} (c : Cls K (He.ga K C)) (me : Meth K (He.ga K C) m (He.ma K (He.ga K C) m)) (D : DM K C m qual st) (S : FnScope N ps (defScope st))
    (hb : ∀ (kV doc pm : Value) (an : Option Addr) (cdv ct : Value) (us : List Value), us.length = ps.length → bindArgs (PySem.W.fnOf m qual (defArgs st) (defBody st) (defScope st) .none kV doc pm an cdv ct) ⟨us, []⟩ = pure (ps.zip us))
    (len : ∀ vs H Q E, sp vs H Q E → vs.length = ps.length)
    (hd : ∀ (f : Addr) (cdv : Value) (A : Around) (outer : List Env) (s : Shared) (H : Hp) (E : XK), Room k (A.deeper (envOfC qual (defScope st) s.heap.objs.size f cdv)) → PSs (cxOf CX0 P w K mg base N qual (defScope st) f cdv A outer s H E).nox (defBody st) t)
    (hv : ∀ vs H Q E, sp vs H Q E → t { nx := fun _ H' => Q .non H', rt := Q } (start N vs) H) : CalM P w K mg base (k + 1) (He.ga K C) m sp := by
  obtain ⟨fd, F, b⟩ := fn_mk D S hb len hd hv
  exact ⟨fd, ps, F, c, me, b⟩
theorem calI_mk {C qual : Str} {st : Stmt} {N ps : List Str} {k : Nat} {sp : Sp} {t : TS} (M : Mk K (He.ga K C) (He.ma K (He.ga K C) "__init__")) (g : mg C = some (.ref (He.ga K C))) (D : DM K C "__init__" qual st) (S : FnScope N ps (defScope st))
    (hb : ∀ (kV doc pm : Value) (an : Option Addr) (cdv ct : Value) (us : List Value), us.length = ps.length → bindArgs (PySem.W.fnOf "__init__" qual (defArgs st) (defBody st) (defScope st) .none kV doc pm an cdv ct) ⟨us, []⟩ = pure (ps.zip us))
    (len : ∀ vs H Q E, sp vs H Q E → vs.length = ps.length)
    (hd : ∀ (f : Addr) (cdv : Value) (A : Around) (outer : List Env) (s : Shared) (H : Hp) (E : XK), Room k (A.deeper (envOfC qual (defScope st) s.heap.objs.size f cdv)) → PSs (cxOf CX0 P w K mg base N qual (defScope st) f cdv A outer s H E).nox (defBody st) t)
    (hv : ∀ vs H Q E, sp vs H Q E → t { nx := fun _ H' => Q .non H', rt := Q } (start N vs) H) : CalI P w K mg base (k + 1) C (He.ga K C) sp := by
  obtain ⟨fd, F, b⟩ := fn_mk D S hb len hd hv
  exact ⟨fd, ps, F, M, g, b⟩
end
section
variable {X : Cx} {k j : Nat} {x m : Str} {C : Addr} {sp : Sp} {p pos apos : Pos} {e o : Expr} {es : List Expr} {t : TA} {ta : TE}
theorem pe_m {pl : Sem Bool} (c : CalM X.prog X.w X.K X.mg X.base k C m sp) (hr : Room j X.A) (hk : k ≤ j) (he : PE X o ta) (ha : PA X (e :: es) t)
    (h1 : starEach (e :: es) X.env = (false, eval e X.env) :: starEach es X.env := by rfl) (h2 : (backTo pos (starEach es X.env)).any (·.1) = false := by rfl)
    (h3 : eval (.Call (.Attribute o m apos) (e :: es) [] pos) X.env = (eval o X.env >>= fun ov => standAt apos.atName >>= fun _ => holding [ov] (getMethod ov m pl) >>= fun gf => callWith pos gf.1 gf.2 (backTo pos (starEach (e :: es) X.env)) (backToKw pos (keywordEach [] X.env))) := by rfl) :
    PE X (.Call (.Attribute o m apos) (e :: es) [] pos) (tMeth C m sp [] E0 ta t) := by
  obtain ⟨fd, ps, F, hc, hm, b⟩ := c.ex
  exact pe_meth (pl := pl) he hc hm F (hr.mono hk) b .nil pass0 ha h1 h2 h3
theorem pe_m0 {pl : Sem Bool} (c : CalM X.prog X.w X.K X.mg X.base k C m sp) (hr : Room j X.A) (hk : k ≤ j) (he : PE X o ta)
    (h3 : eval (.Call (.Attribute o m apos) [] [] pos) X.env = (eval o X.env >>= fun ov => standAt apos.atName >>= fun _ => holding [ov] (getMethod ov m pl) >>= fun gf => callWith pos gf.1 gf.2 (backTo pos (starEach [] X.env)) (backToKw pos (keywordEach [] X.env))) := by rfl) :
    PE X (.Call (.Attribute o m apos) [] [] pos) (tMeth C m sp [] E0 ta tNil) := by
  obtain ⟨fd, ps, F, hc, hm, b⟩ := c.ex
  exact pe_meth0 (pl := pl) he hc hm F (hr.mono hk) b .nil pass0 h3
theorem pe_i (c : CalI X.prog X.w X.K X.mg X.base k x C sp) (hr : Room j X.A) (hk : k + 1 ≤ j) (hg : Gl X x) (ha : PA X (e :: es) t)
    (hdb : (x == ("__debug__" : Str)) = false := by decide) (h1 : starEach (e :: es) X.env = (false, eval e X.env) :: starEach es X.env := by rfl) (h2 : (backTo pos (starEach es X.env)).any (·.1) = false := by rfl) :
    PE X (.Call (.Name x p) (e :: es) [] pos) (tMake C sp [] E0 t) := by
  obtain ⟨fd, ps, F, M, hm, b⟩ := c.ex
  exact pe_make M F (hr.mono hk) hg hm b .nil pass0 ha hdb h1 h2
theorem pe_i0 (c : CalI X.prog X.w X.K X.mg X.base k x C sp) (hr : Room j X.A) (hk : k + 1 ≤ j) (hg : Gl X x) (hdb : (x == ("__debug__" : Str)) = false := by decide) :
    PE X (.Call (.Name x p) [] [] pos) (tMake C sp [] E0 tNil) := by
  obtain ⟨fd, ps, F, M, hm, b⟩ := c.ex
  exact pe_make0 M F (hr.mono hk) hg hm b .nil pass0 hdb
end
/-! ### steps -/
def FldR (K : PySem.W.Frag) (f : Str) (x : V) (H : Hp) (Q : VK) : Prop := ∃ a C dx fs v, x = .ref a ∧ H a = some (.ins C dx fs) ∧ Cls K C ∧ NoAttr K C f ∧ fs.lookup f = some v ∧ Q v H
def FldW (K : PySem.W.Frag) (f : Str) (y x : V) (σ : L2.St) (H : Hp) (D : Ends) : Prop := ∃ a C dx fs, x = .ref a ∧ H a = some (.ins C dx fs) ∧ Cls K C ∧ NoAttr K C f ∧ fs.length < 1000 ∧ D.nx σ (upd H a (.ins C dx (putF f y fs)))
def MethR (C : Addr) (m : Str) (sp : Sp) (t : TA) (σ : L2.St) (Q : VK) (x : V) (H : Hp) : Prop := ∃ a dx fs, x = .ref a ∧ H a = some (.ins C dx fs) ∧ fs.lookup m = none ∧ t σ H fun vs H2 => sp (x :: (vs ++ [])) H2 Q E0
section
variable {K : PySem.W.Frag} {σ : L2.St} {H : Hp} {Q : VK} {D : Ends} {ta tv : TE} {t : TA} {f m : Str} {C a dx : Addr} {fs : List (Str × V)} {v x : V} {sp : Sp}
theorem z_fld (q : ta σ H fun x H1 => FldR K f x H1 Q) : tFld K ta f σ H Q := q
theorem z_fldR (h : H a = some (.ins C dx fs)) (c : Cls K C) (n : NoAttr K C f) (e : fs.lookup f = some v) (q : Q v H) : FldR K f (.ref a) H Q := ⟨a, C, dx, fs, v, rfl, h, c, n, e, q⟩
theorem z_sfld (q : tv σ H fun y H1 => ta σ H1 fun x H2 => FldW K f y x σ H2 D) : sFld K ta tv f D σ H := q
theorem z_fldW (h : H a = some (.ins C dx fs)) (c : Cls K C) (n : NoAttr K C f) (l : fs.length < 1000) (q : D.nx σ (upd H a (.ins C dx (putF f v fs)))) : FldW K f v (.ref a) σ H D := ⟨a, C, dx, fs, rfl, h, c, n, l, q⟩
theorem z_meth (q : ta σ H fun x H1 => MethR C m sp t σ Q x H1) : tMeth C m sp [] E0 ta t σ H Q := q
theorem z_methR (h : H a = some (.ins C dx fs)) (e : fs.lookup m = none) (q : t σ H fun vs H2 => sp (.ref a :: (vs ++ [])) H2 Q E0) : MethR C m sp t σ Q (.ref a) H := ⟨a, dx, fs, rfl, h, e, q⟩
theorem z_make (q : t σ H fun vs H1 => ∀ x dx, H1 x = none → H1 dx = none → dx ≠ x → sp (.ref x :: (vs ++ [])) (upd (upd H1 dx (.own x)) x (.ins C dx [])) (fun v H2 => v = .non ∧ Q (.ref x) H2) E0) : tMake C sp [] E0 t σ H Q := q
end
/-! ### more short steps -/
abbrev cTupOf (K : PySem.W.Frag) : List V → Hp → VK → Prop := fun xs H Q => ∃ p ys, xs = [.ref p] ∧ ((SqL K H p ys ∧ ∀ l, H l = none → Q (.ref l) (upd H l (.tup ys))) ∨ (SqT K H p ys ∧ Q (.ref p) H))
abbrev cListOf (K : PySem.W.Frag) : List V → Hp → VK → Prop := fun xs H Q => ∃ p ys, xs = [.ref p] ∧ (SqL K H p ys ∨ SqT K H p ys) ∧ ∀ l, H l = none → Q (.ref l) (upd H l (.lst ys))
theorem at_some {α : Type} {l : List α} {i : Int} (h0 : 0 ≤ i) (h : i < l.length) : ∃ c, atI l i = some c ∧ c ∈ l := by
  obtain ⟨j, rfl⟩ := Int.eq_ofNat_of_zero_le h0
  have hj : j < l.length := Int.ofNat_lt.mp h
  exact ⟨l[j], atI_nat (List.getElem?_eq_getElem hj), List.getElem_mem hj⟩
/-- xs != [], xs == [], of lists of any things that are data without truths -/
theorem z_neNil {K : PySem.W.Frag} {H : Hp} {Q : VK} {a c : Addr} {xs : List V} {ds : List PyData} (hx : SqL K H a xs) (hd : DpAll K H xs ds) (hc : SqL K H c []) (cl : clAll ds = true) (dd : PyData.depthAll ds + 1 ≤ 64) (q : Q (.bl (!xs.isEmpty)) H) : rNeD K (.ref a) (.ref c) H Q := by
  refine z_neD (b := xs.isEmpty) (.lst hx hd) (.lst hc .nil) cl rfl dd (by decide) ?_ q
  cases hd with
  | nil => exact ⟨fun _ => rfl, fun _ => rfl⟩
  | cons a r => exact ⟨fun h => (by cases h), fun h => (by cases h)⟩
section
variable {σ : L2.St} {H : Hp} {D : Ends} {ta : TA} {i j : Nat} {to ti : TE} {t : TSet} {v : V} {QS : L2.St → Hp → Prop}
theorem z_par (q : ta σ H fun vs H1 => ∃ v w, vs = [v, w] ∧ D.nx ((σ.set i (some v)).set j (some w)) H1) : tPar i j ta D σ H := q
theorem z_gsub (q : to σ H fun o H1 => ti σ H1 fun i H2 => t o i v H2 fun H3 => QS σ H3) : gSub to ti t v σ H QS := q
end
end Z

set_option Elab.async false
set_option linter.all false
set_option maxRecDepth 100000
set_option maxHeartbeats 4000000
/-! Zg: promises that hold where no repr is under way (A.guards = some []), and a law's end over such a promise. -/
namespace Z
open PySem PySem.Spec PyProof.Rows L2
/-- a def's promise where no repr is under way -/
structure FnG (P : Program) (w : World) (K : PySem.W.Frag) (mg : Str → Option Value) (base : Heap) (k : Nat) (f : Addr) (fd : FuncData) (xs : List Str) (sp : Sp) : Prop where
  many : ∀ vs H Q E, sp vs H Q E → vs.length = xs.length
  go : ∀ (B : Around) (st : List Env) (s : Shared) (H : Hp) (ar : Args) (us : List Value) (vs : List V) (Q : VK) (E : XK), B.guards = some [] → Room k B → Env0 P w K mg base B st s H → BindsTo s fd ar (xs.zip us) → Vals vs us → sp vs H Q E →
    codeAny (model P w) B (.call (.ref f) ar) (CR CX0 st P w H s Q E) s
theorem FnG.all {P : Program} {w : World} {K : PySem.W.Frag} {mg : Str → Option Value} {base : Heap} {k : Nat} {f : Addr} {fd : FuncData} {xs : List Str} {sp : Sp} (F : FnOk P w K mg base CX0 k f fd xs sp) : FnG P w K mg base k f fd xs sp :=
  ⟨F.len, fun B st s H ar us vs Q E _ hr e b v q => F.run B st s H ar us vs Q E hr e b v q⟩
section
variable {P : Program} {w : World} {K : PySem.W.Frag} {mg : Str → Option Value} {base : Heap} {x qual : Str} {params : Arguments} {body : List Stmt} {scope : Scope} {dvs : List V} {kws : List (Str × V)} {f : Addr} {fd : FuncData}
theorem FnG.of {N xs : List Str} {k : Nat} {sp : Sp} (F : FunD K x qual params body scope dvs kws f fd) (S : FnScope N xs scope) (many : ∀ vs H Q E, sp vs H Q E → vs.length = xs.length)
    (hb : ∀ (cv : Value) (B : Around) (st : List Env) (s : Shared) (H : Hp) (vs : List V) (Q : VK) (E : XK), B.guards = some [] → Room k (B.deeper (envOfC qual scope s.heap.objs.size f cv)) → sp vs H Q E →
      ∃ t, PSs (cxOf CX0 P w K mg base N qual scope f cv B st s H E) body t ∧ t { nx := fun _ H' => Q .non H', rt := Q } (start N vs) H) : FnG P w K mg base (k + 1) f fd xs sp := by
  obtain ⟨oc, od, dV, kV, doc, pm, an, cv, ct, sl, rfl, lk, hcd, _, _⟩ := F.ex
  constructor
  · exact many
  intro B st s H ar us vs Q E hg room env0 binds rel q0
  have inHeap : K.In s.heap := env0.mod.kin.keeps fun b o z => (env0.bs b o z).1
  have free : s.heap.NoLimit := env0.mod.nolimit.keeps fun b o z => (env0.bs b o z).1
  have lenV := many _ _ _ _ q0
  have kinds : ∀ y ∈ xs.zip us, scope.names.lookup y.1 = some .local ∨ (scope.names.lookup y.1 = some .cell ∧ ((cellsFrom (s.heap.objs.size + 1) scope.names []).lookup y.1).isSome = true) := by
    rintro ⟨n, v⟩ hy
    rcases S.par n (List.of_mem_zip hy).1 with z | z
    · exact Or.inl z
    · exact Or.inr ⟨z, PySem.W.cellsFrom_some _ _ _ (Or.inl z)⟩
  refine codeAny_call_function room.depth (inHeap _ _ lk) rfl S.co S.gen rfl (PySem.W.codeRec_of inHeap hcd) (binds _ _ _ _ ?_)
  refine wpAny_newFunctionEnv_cells S.kind kinds fun env hv s1 y => ?_
  cases hv
  refine ⟨free.keeps y.toInCall.keep, codeAny_func ?_⟩
  obtain ⟨t, ht, q1⟩ := hb cv B st s H vs Q E hg (room.deeper _) q0
  have inv0 : Inv (cxOf CX0 P w K mg base N qual scope f cv B st s H E) [] (start N vs) H s1 := inv_start S room.hd env0 lenV rel y
  have ending : ∀ {σ' : L2.St} {H' : Hp} {s' : Shared} {v : V} {u : Value}, Inv (cxOf CX0 P w K mg base N qual scope f cv B st s H E) [] σ' H' s' → RelV v u → Q v H' → CE st P w H s Q u s' :=
    fun {_ H' _ v _} J r z => ⟨v, H', J.os, J.bare, J.base, J.hok, r, z⟩
  refine wpAny_mono (ht.run [] s1 (start N vs) H _ inv0 q1) ?_ fun _ _ z => z
  intro fl s' z
  match fl, z with
  | .ret u, ⟨v, σ', H', J, r, z⟩ => exact ending J r z
  | .next, ⟨σ', H', J, z⟩ => exact ending (v := V.non) (u := Value.none) J rfl z
  | .brk, ⟨_, _, _, z⟩ => exact z.elim
  | .cont, ⟨_, _, _, z⟩ => exact z.elim
end
section
variable {P : Program} {w : World} {K : PySem.W.Frag} {mg mb : Str → Option Value} {k : Nat} {fa a : Addr} {fd : FuncData} {x : Str} {sp : Sp} {s₁ : Shared} {vs : List Value} {ns : List Int}
theorem hid_ns {H : Hp} (only : ∀ b, H b ≠ none → b = a) (list : s₁.heap.get? a = some { cls := .type "list", data := .seq vs.toArray }) {b : Addr} {m : Str → Option Value} (h : s₁.heap.Ns b m) : (hidT s₁.heap H).Ns b m := by
  obtain ⟨o, es, ep, e, d, r⟩ := h
  refine ⟨o, es, ep, hidT_get e ?_, d, r⟩
  cases z : H b with
  | none => rfl
  | some u =>
    obtain rfl : b = a := only b (by rw [z]; exact Option.some_ne_none u)
    rw [list] at e
    obtain rfl := Option.some.inj e
    exact Data.noConfusion d
theorem law_G1 (inHeap : K.In s₁.heap) (globals : s₁.heap.Ns mainGlobals mg) (names : s₁.heap.Ns builtinsNs mb) (boots : ∀ x : Str, x ≠ "__name__" → mb x = bootBuiltins x) (free : s₁.heap.NoLimit) (still : s₁.gens = #[])
    (list : s₁.heap.get? a = some { cls := .type "list", data := .seq vs.toArray }) (room : Room k callerA)
    (F : ∀ base : Heap, K.In base → base.Ns mainGlobals mg → FnG P w K mg base k fa fd [x] sp) (binds : ∀ (s : Shared) (u : Value), BindsTo s fd ⟨[u], []⟩ [(x, u)])
    {H : Hp} (hO : Only H) (hs : sp [.ref a] H (fun v _ => v = .bl true) fun _ _ _ => False) (hok : HOk P w H s₁.heap) (only : ∀ b, H b ≠ none → b = a) (apart : H a ≠ none → K.lookup a = none) :
    codeAny (model P w) callerA (.call (.ref fa) ⟨[.ref a], []⟩) (fun r s' => r = .ok (.ret (.bool true)) ∧ OldK s₁.heap s'.heap ∧ s'.os = s₁.os ∧ AllBare s'.gens) s₁ := by
  have kIn : K.In (hidT s₁.heap H) := by
    intro b o e
    refine hidT_get (inHeap b o e) ?_
    cases z : H b with
    | none => rfl
    | some u =>
      obtain rfl : b = a := only b (by rw [z]; exact Option.some_ne_none u)
      rw [apart (by rw [z]; exact Option.some_ne_none u)] at e
      cases e
  have nolim : (hidT s₁.heap H).NoLimit := by
    obtain ⟨mc, z1, z2⟩ := free
    exact ⟨mc, hid_ns only list z1, z2⟩
  have g2 := hid_ns only list globals
  have env0 : Env0 P w K mg (hidT s₁.heap H) callerA [] s₁ H :=
    { frames := rfl, mod := ⟨kIn, g2, ⟨mb, hid_ns only list names, boots⟩, nolim⟩, bs := fun b o e => of_hidT e, bsz := Nat.le_of_eq (hidT_size _ _), funs := trivial, frf := fun b z => absurd (show b ∈ ([] : List Addr) from z) List.not_mem_nil, hok := hok, bare := .of_eq still }
  have run := (F _ kIn g2).go callerA [] s₁ H ⟨[.ref a], []⟩ [.ref a] [.ref a] _ _ rfl room env0 (binds s₁ (.ref a)) (.cons rfl .nil) hs
  refine codeAny_mono run ?_
  intro r s' z
  match r, z with
  | .error e, z => exact False.elim z
  | .ok .next, z => exact False.elim z
  | .ok .brk, z => exact False.elim z
  | .ok .cont, z => exact False.elim z
  | .ok (.ret u), ⟨v, H', os, bare, un, hok2, rel, z⟩ =>
    have zv : v = .bl true := z
    subst zv
    have zu : u = Value.bool true := rel
    subst zu
    refine ⟨rfl, OldK.of_keep ?_, os, bare⟩
    intro b o e
    rcases hO b with n | ⟨ob, ys, n⟩
    · exact un.keep b o e n (fun y => absurd (show b ∈ ([] : List Addr) from y) List.not_mem_nil) (by simp)
    · have n2 := un.frzs b ob _ n
      have o1 := (hok b _ n).1
      have o2 := (hok2 b _ n2).1
      rw [e] at o1
      cases o1
      exact o2
theorem law_G (inHeap : K.In s₁.heap) (globals : s₁.heap.Ns mainGlobals mg) (names : s₁.heap.Ns builtinsNs mb) (boots : ∀ x : Str, x ≠ "__name__" → mb x = bootBuiltins x) (free : s₁.heap.NoLimit) (still : s₁.gens = #[])
    (list : s₁.heap.get? a = some { cls := .type "list", data := .seq vs.toArray }) (nums : IntsAre vs ns) (few : ns.length ≤ sizeLine) (room : Room k callerA)
    (F : ∀ base : Heap, K.In base → base.Ns mainGlobals mg → FnG P w K mg base k fa fd [x] sp) (binds : ∀ (s : Shared) (u : Value), BindsTo s fd ⟨[u], []⟩ [(x, u)])
    (promised : ∀ H : Hp, Only H → SqL K H a (ns.map V.int) → sp [.ref a] H (fun v _ => v = .bl true) fun _ _ _ => False) :
    codeAny (model P w) callerA (.call (.ref fa) ⟨[.ref a], []⟩) (fun r s' => r = .ok (.ret (.bool true)) ∧ OldK s₁.heap s'.heap ∧ s'.os = s₁.os ∧ AllBare s'.gens) s₁ := by
  have rel := vals_ints nums
  have size := nums.length
  by_cases lk : K.lookup a = none
  · obtain ⟨H, hH⟩ : ∃ H : Hp, ∀ b, H b = if b = a then some (.frz { cls := .type "list", data := .seq vs.toArray } (.lst (ns.map V.int))) else none := ⟨_, fun _ => rfl⟩
    have at_a : H a = some (.frz { cls := .type "list", data := .seq vs.toArray } (.lst (ns.map V.int))) := (hH a).trans (if_pos rfl)
    have off : ∀ b, b ≠ a → H b = none := fun b h => (hH b).trans (if_neg h)
    have only : ∀ b, H b ≠ none → b = a := fun b h => Classical.byContradiction fun z => h (off b z)
    have hO : Only H := fun b => by
      by_cases z : b = a
      · exact .inr ⟨_, _, by rw [z]; exact at_a⟩
      · exact .inl (off b z)
    refine law_G1 inHeap globals names boots free still list room F binds hO (promised H hO (.inl (.inr ⟨_, at_a⟩))) ?_ only fun _ => lk
    intro b u h
    obtain rfl : b = a := only b (by rw [h]; exact Option.some_ne_none u)
    rw [at_a] at h
    obtain rfl := Option.some.inj h
    exact ⟨list, by rw [List.length_map]; exact few, vs, _, rel, list⟩
  · obtain ⟨o, lk2⟩ : ∃ o, K.lookup a = some o := by
      cases z : K.lookup a with
      | none => exact absurd z lk
      | some o => exact ⟨o, rfl⟩
    have own := inHeap a o lk2
    rw [list] at own
    cases own
    have hO : Only fun _ => none := fun _ => .inl rfl
    refine law_G1 inHeap globals names boots free still list room F binds hO (promised _ hO (.inr ⟨_, vs.toArray, _, lk2, rfl, rfl, rfl, ?_, ?_⟩)) ?_ (fun _ z => absurd rfl z) fun z => absurd rfl z
    · rw [List.size_toArray, size]
      exact few
    · simpa using rel
    · intro b u h
      cases h
end
/-- a law's end, as walk_ofE, over such a promise -/
theorem walk_G {l : PySem.W.OpenLaw} {n k : Nat} {q : Program} {loose : List Str} {XP : (Str → Option Value) → Heap → Prop} {YP : World → Heap → Prop} {d : DefRec} {x : Str}
    (most : l.most = some n) (line : n ≤ sizeLine) (plain : d.params.defaults = []) (room : Room k callerA)
    (F : ∀ (w : World) (mg : Str → Option Value) (fa : Addr) (h : Heap), YP w h → h.Ns mainGlobals mg → mg d.name = some (.ref fa) →
      ∃ (K : PySem.W.Frag) (fd : FuncData) (sp : Sp), K.In h ∧ (∀ (s : Shared) (u : Value), BindsTo s fd ⟨[u], []⟩ [(x, u)]) ∧
        (∀ (H : Hp) (a : Addr) (ns : List Int), ns.length ≤ n → Only H → SqL K H a (ns.map V.int) → sp [.ref a] H (fun v _ => v = .bl true) fun _ _ _ => False) ∧
        ∀ base : Heap, K.In base → base.Ns mainGlobals mg → FnG l.prog w K mg base k fa fd [x] sp) :
    PySem.W.WalkO q loose XP YP l.row.toRowW d [] (fun f vs => PySem.call f vs) := by
  apply Att.attach_call most plain
  intro w s₀ s₁ mg mb fa o pm cd doc a vs ns ground y hof hdat hcode hname hlist hints hmany hstill
  obtain ⟨K, fd, sp, inHeap, binds, promised, hF⟩ := F w mg fa _ y ground.T.g hname
  exact law_G inHeap ground.T.g ground.T.b ground.T.builtins ground.T.nolimit hstill hlist hints (Nat.le_trans hmany line) room hF binds fun H hO hS => promised H a ns hmany hO hS
end Z

set_option Elab.async false
set_option linter.all false
set_option maxRecDepth 100000
set_option maxHeartbeats 4000000
/-! Zg2: repr of data and of a dict of such, where no repr is under way. -/
namespace Z
open PySem PySem.Spec PyProof.Rows L2
def keyD : Key → PyData
  | .inl i => .int i
  | .inr x => .str x
theorem key_reads {P : Program} {w : World} {h : Heap} {k : Key} {v : Value} (e : (mixKind P w).is k v = true) : Reads h v (keyD k) [] := by
  rcases keyIs_shape e with ⟨i, t, rfl, rfl⟩ | ⟨x, t, rfl, rfl⟩
  · exact .int i t
  · exact .str x t
theorem pairs_reads {P : Program} {w : World} {h : Heap} : ∀ {es : List DictEntry} {kvs : List (Key × Value)}, Pairs (mixKind P w) es kvs → ReadsAll h (es.map (·.key)) (kvs.map fun p => keyD p.1) [] ∧ es.map (·.val) = kvs.map (·.2)
  | _, _, .nil => ⟨.nil, rfl⟩
  | _, _, .cons e v r => by
    obtain ⟨z1, z2⟩ := pairs_reads (h := h) r
    refine ⟨ReadsAll.cons (as := []) (bs := []) (key_reads e) z1, ?_⟩
    rw [List.map_cons, List.map_cons, z2, v]
theorem kv_parts : ∀ {kvs : List (Key × V)} {vs : List (Key × Value)}, KV kvs vs → vs.map (·.1) = kvs.map (·.1) ∧ Vals (kvs.map (·.2)) (vs.map (·.2))
  | _, _, .nil => ⟨rfl, .nil⟩
  | _, _, .cons e r => by
    obtain ⟨z1, z2⟩ := kv_parts r
    exact ⟨by rw [List.map_cons, List.map_cons, z1, e.1], .cons e.2 z2⟩
/-- the data of a dict -/
def dictD (kvs : List (Key × V)) (ds : List PyData) : PyData := .dict ((kvs.map fun p => keyD p.1).zip ds)
/-- repr of a dict with values that are data without dicts -/
def rReprK (K : PySem.W.Frag) : List V → Hp → VK → Prop := fun xs H Q => ∃ (a : Addr) (kvs : List (Key × V)) (ds : List PyData), xs = [.ref a] ∧ Rd H a (.dK kvs) ∧ DpAll K H (kvs.map (·.2)) ds ∧ (dictD kvs ds).showable = true ∧ PyData.hasDictAll ds = false ∧ (dictD kvs ds).depth ≤ 50 ∧ (dictD kvs ds).shown.length ≤ sizeLine ∧ Q (.str (dictD kvs ds).shown) H
theorem call_reprK {X : Cx} (quiet : X.A.guards = some []) (hu : X.A.units + 64 < cLine) : CallR X (.builtin "repr") (rReprK X.K) := by
  intro pins s σ H xs us Q I r h
  obtain ⟨a, kvs, ds, rfl, hR, hD, sh, nd, dp, sz, q⟩ := h
  obtain ⟨u, rfl, ru⟩ := vals1 r
  cases ru
  obtain ⟨_, hsys, vs, hkv, o, es, ep, ho, ex, hd, _, pr, _⟩ := dk_rd I.hok hR
  obtain ⟨ek, vv⟩ := kv_parts hkv
  obtain ⟨rk, ev⟩ := pairs_reads (h := s.heap) pr
  rw [← ev] at vv
  obtain ⟨bs, rv⟩ := Dp.readsAll I ds _ _ hD vv
  have eks : (vs.map fun p => keyD p.1) = kvs.map fun p => keyD p.1 := by
    have := congrArg (List.map keyD) ek
    rwa [List.map_map, List.map_map] at this
  rw [eks] at rk
  have ll : (kvs.map fun p => keyD p.1).length = ds.length := by
    rw [← dpAll_len hD, List.length_map, List.length_map]
  have z1 : ((kvs.map fun p => keyD p.1).zip ds).map (·.1) = kvs.map fun p => keyD p.1 := List.map_fst_zip (by omega)
  have z2 : ((kvs.map fun p => keyD p.1).zip ds).map (·.2) = ds := List.map_snd_zip (by omega)
  unfold dictD at sh dp sz q
  generalize (kvs.map fun p => keyD p.1).zip ds = dd at *
  rw [← z1] at rk
  rw [← z2] at rv nd
  have szD : (dictText (PyData.shownKv dd)).length ≤ sizeLine := by simpa only [PyData.shown] using sz
  have dpD : PyData.depthKv dd + 1 ≤ 50 := by simpa only [PyData.depth] using dp
  obtain ⟨sk, sv⟩ := PyData.showableKv_split dd (by simpa only [PyData.showable] using sh)
  obtain ⟨c1, m1, k1⟩ := ReprAllK.of_readsAll (prog := X.prog) (w := X.w) rk sk (fun _ z => by cases z) fun t ht => by
    obtain ⟨y, hy, l⟩ := PyData.shownKv_key_le dd t ht
    exact Nat.le_trans l (Nat.le_trans (dictText_mem_le hy) szD)
  obtain ⟨c2, m2, k2⟩ := ReprAllK.of_readsAll (prog := X.prog) (w := X.w) rv sv (fun z => by rw [nd] at z; cases z) fun t ht => by
    obtain ⟨y, hy, l⟩ := PyData.shownKv_val_le dd t ht
    exact Nat.le_trans l (Nat.le_trans (dictText_mem_le hy) szD)
  have d1 := PyData.depthAll_keys_le dd
  have d2 := PyData.depthAll_vals_le dd
  have apart : a ∉ c1 ++ c2 := not_mem_of_deeper (.dict ho ex.1 hd rk rv) (show PyData.depthKv dd < _ by simp only [PyData.depth]; omega) ((m1.mono d1).append (m2.mono d2))
  refine call_repr_slot (by omega) ⟨o, ho, ex.1⟩ F.slot_dict_repr ?_
  have entries := ReprEntriesK.of_two es.toList _ _ (k1.more_le (fun b z => List.mem_append_left c2 z) d1) (k2.more_le (fun b z => List.mem_append_right c1 z) d2)
  rw [← PyData.shownKv_eq] at entries
  refine call_dict_reprK ho ex.1 hd hsys apart entries (A := X.A.in1) quiet (fun b _ => Clear.nil b) (by show X.A.units + 1 + _ < cLine; omega) (fun _ _ z => z) (fun h' u tk kept => ⟨_, _, rfl, ?_⟩) szD
  refine ⟨.str _, H, I.kept kept, ⟨_, rfl⟩, ?_⟩
  simpa only [PyData.shown] using q
/-- repr of data without dicts -/
def rReprD (K : PySem.W.Frag) : List V → Hp → VK → Prop := fun xs H Q => ∃ (a : Addr) (d : PyData), xs = [.ref a] ∧ Dp K H (.ref a) d ∧ d.showable = true ∧ d.hasDict = false ∧ d.depth ≤ 50 ∧ d.shown.length ≤ sizeLine ∧ Q (.str d.shown) H
theorem call_reprD {X : Cx} (quiet : X.A.guards = some []) (hu : X.A.units + 64 < cLine) : CallR X (.builtin "repr") (rReprD X.K) := by
  intro pins s σ H xs us Q I r h
  obtain ⟨a, d, rfl, hD, sh, nd, dp, sz, q⟩ := h
  obtain ⟨u, rfl, ru⟩ := vals1 r
  cases ru
  obtain ⟨as, rd⟩ := Dp.reads I d _ _ hD (show RelV (.ref a) (.ref a) from rfl)
  refine repr_of_reads' rd sh (fun z => by rw [nd] at z; cases z) quiet (by omega) (fun _ _ z => z) (fun h' u tk kept => ?_) sz
  exact ⟨.str _, H, I.kept kept, ⟨_, rfl⟩, q⟩
theorem deep_quiet {B : Around} {env : Env} (h : B.guards = some []) : (B.deeper env).guards = some [] := h
/-! ### defs of the module that are promised so -/
structure CalG (P : Program) (w : World) (K : PySem.W.Frag) (mg : Str → Option Value) (base : Heap) (k : Nat) (x : Str) (sp : Sp) : Prop where
  is : ∃ (f : Addr) (fd : FuncData) (xs : List Str), FnG P w K mg base k f fd xs sp ∧ mg x = some (.ref f) ∧ PySem.W.keepIn K (.ref f) = true ∧ Binds K fd xs []
section
variable {X : Cx} {k j : Nat} {x : Str} {sp : Sp} {p pos : Pos} {e : Expr} {es : List Expr} {t : TA}
theorem run_G {f : Addr} {fd : FuncData} {xs : List Str} {pins : List (Addr × Obj)} {σ : L2.St} {H : Hp} {s : Shared} {Q : VK} {us : List Value} {vs : List V} (F : FnG X.prog X.w X.K X.mg X.base k f fd xs sp) (quiet : X.A.guards = some []) (room : Room k X.A) (b : Binds X.K fd xs [])
    (I : Inv X pins σ H s) (r : Vals vs us) (h : sp (vs ++ []) H Q E0) : wpAny (model X.prog X.w) X.A (call (.ref f) us) (EP X pins σ Q) X.xe s := by
  have r2 : Vals (vs ++ []) (us ++ []) := r.append .nil
  have many : (us ++ []).length = xs.length := by
    rw [← r2.length]
    exact F.many _ _ _ _ h
  have run := F.go X.A X.stack s H ⟨us, []⟩ (us ++ []) (vs ++ []) Q E0 quiet room I.env0 (b s us I.kIn many) r2 h
  refine wpAny_call (codeAny_mono run fun r s' z => ?_)
  match r, z with
  | .error e, z => exact pass0 pins σ H s e s' I z
  | .ok (.ret u), z => exact I.after z
  | .ok .next, z => exact z.elim
  | .ok .brk, z => exact z.elim
  | .ok .cont, z => exact z.elim
theorem pe_cG (c : CalG X.prog X.w X.K X.mg X.base k x sp) (quiet : X.A.guards = some []) (room : Room j X.A) (hk : k ≤ j) (hg : Gl X x) (ha : PA X (e :: es) t)
    (hdb : (x == ("__debug__" : Str)) = false := by decide) (he : starEach (e :: es) X.env = (false, eval e X.env) :: starEach es X.env := by rfl) (hpl : (backTo pos (starEach es X.env)).any (·.1) = false := by rfl) :
    PE X (.Call (.Name x p) (e :: es) [] pos) (tCall sp [] E0 t) := by
  obtain ⟨f, fd, xs, F, at_, keep, b⟩ := c.is
  constructor
  intro pins s σ H Q I h
  refine wpAny_Call_Name_kw (ld_glob I hg at_ (PySem.W.callWith_K (h₀ := X.base) I.ok.mod.kin keep ?_ he hpl) hdb)
  refine thn (ha.run pos pins s σ H _ I h) ?_
  rintro us s1 ⟨vs, H1, I1, r, q⟩
  exact ⟨I1.kIn, run_G F quiet (room.mono hk) b I1 r q⟩
end
section
variable {P : Program} {w : World} {K : PySem.W.Frag} {mg : Str → Option Value} {base : Heap}
theorem calG_mk {x : Str} {st : Stmt} {N xs : List Str} {k : Nat} {sp : Sp} {t : TS} (D : DX K mg x st) (S : FnScope N xs (defScope st))
    (hb : ∀ (kV doc pm : Value) (an : Option Addr) (cv ct : Value) (us : List Value), us.length = xs.length → bindArgs (PySem.W.fnOf x x (defArgs st) (defBody st) (defScope st) .none kV doc pm an cv ct) ⟨us, []⟩ = pure (xs.zip us))
    (many : ∀ vs H Q E, sp vs H Q E → vs.length = xs.length)
    (hd : ∀ (f : Addr) (cv : Value) (B : Around) (st' : List Env) (s : Shared) (H : Hp) (E : XK), B.guards = some [] → Room k (B.deeper (envOfC x (defScope st) s.heap.objs.size f cv)) → PSs (cxOf CX0 P w K mg base N x (defScope st) f cv B st' s H E).nox (defBody st) t)
    (hv : ∀ vs H Q E, sp vs H Q E → t { nx := fun _ H' => Q .non H', rt := Q } (start N vs) H) : CalG P w K mg base (k + 1) x sp := by
  obtain ⟨f, fd, F, at_⟩ := D
  exact ⟨f, fd, xs, FnG.of F S many fun cv B st' s H vs Q E quiet room h => ⟨t, PSs.nox (hd f cv B st' s H E quiet room), hv vs H Q E h⟩, at_, F.kp, F.bindsN hb⟩
end
end Z

set_option Elab.async false
set_option linter.all false
set_option maxRecDepth 100000
set_option maxHeartbeats 4000000
/-! Zx: how long repr of data is. -/
namespace Z
open PySem PySem.Spec PyProof.Rows L2
open PyData (shown shownAll shownKv)
mutual
def bnd : PyData → Nat
  | .none => 4
  | .bool _ => 5
  | .int i => (shown (.int i)).length
  | .str x => 10 * x.length + 2
  | .list xs => bndAll xs + 4
  | .tuple xs => bndAll xs + 4
  | .dict kvs => bndKv kvs + 4
def bndAll : List PyData → Nat
  | [] => 0
  | x :: xs => bnd x + 2 + bndAll xs
def bndKv : List (PyData × PyData) → Nat
  | [] => 0
  | (k, v) :: r => bnd k + bnd v + 4 + bndKv r
end
mutual
def cpOk : PyData → Bool
  | .str x => x.cps.toList.all fun c => decide (c < 16 ^ 8)
  | .list xs => cpAll xs
  | .tuple xs => cpAll xs
  | .dict kvs => cpKv kvs
  | _ => true
def cpAll : List PyData → Bool
  | [] => true
  | x :: xs => cpOk x && cpAll xs
def cpKv : List (PyData × PyData) → Bool
  | [] => true
  | (k, v) :: r => cpOk k && cpOk v && cpKv r
end
theorem textFrom_bnd : ∀ (ts : List Str) (k : Nat) (acc : Str), (textFrom k acc ts).length ≤ acc.length + piled ts
  | [], _, _ => Nat.le_add_right _ _
  | t :: r, k, acc => by
    have ih := textFrom_bnd r (k + 1) (acc ++ (if k > 0 then ", " else "" : String) ++ t)
    rw [strLen_append, strLen_append] at ih
    have e : ((if k > 0 then ", " else "" : String) : Str).length ≤ 2 := by split <;> decide
    rw [piled_cons]
    show (textFrom (k + 1) _ r).length ≤ _
    omega
theorem join_bnd (ts : List Str) : (Str.join ", " ts).length ≤ piled ts := by
  by_cases h : ts = []
  · subst h
    decide
  · have := join_length_add ts h
    omega
mutual
theorem shown_bnd : ∀ d : PyData, cpOk d = true → (shown d).length ≤ bnd d
  | .none, _ => by decide
  | .bool b, _ => by cases b <;> decide
  | .int i, _ => Nat.le_refl _
  | .str x, h => StrLaws.reprText_len x fun c hc => of_decide_eq_true (List.all_eq_true.mp (show (x.cps.toList.all fun c => decide (c < 16 ^ 8)) = true from h) c hc)
  | .list xs, h => by
    have := shownAll_bnd xs h
    have t := textFrom_bnd (shownAll xs) 0 "["
    show (textFrom 0 "[" (shownAll xs) ++ ("]" : Str)).length ≤ bndAll xs + 4
    rw [strLen_append]
    have e1 : (("[" : String) : Str).length = 1 := rfl
    have e2 : (("]" : String) : Str).length = 1 := rfl
    omega
  | .tuple xs, h => by
    have := shownAll_bnd xs h
    have t := join_bnd (shownAll xs)
    show (("(" : Str) ++ Str.join ", " (shownAll xs) ++ (if (shownAll xs).length == 1 then ",)" else ")" : String)).length ≤ bndAll xs + 4
    rw [strLen_append, strLen_append]
    have e1 : (("(" : String) : Str).length = 1 := rfl
    have e3 : ((if (shownAll xs).length == 1 then ",)" else ")" : String) : Str).length ≤ 2 := by split <;> decide
    omega
  | .dict kvs, h => by
    have := shownKv_bnd kvs h
    have t := join_bnd (shownKv kvs)
    show (("{" : Str) ++ Str.join ", " (shownKv kvs) ++ "}").length ≤ bndKv kvs + 4
    rw [strLen_append, strLen_append]
    have e1 : (("{" : String) : Str).length = 1 := rfl
    have e2 : (("}" : String) : Str).length = 1 := rfl
    omega
theorem shownAll_bnd : ∀ xs : List PyData, cpAll xs = true → piled (shownAll xs) ≤ bndAll xs
  | [], _ => Nat.le_refl _
  | x :: xs, h => by
    have h' := Bool.and_eq_true_iff.mp (show (cpOk x && cpAll xs) = true from h)
    have a := shown_bnd x h'.1
    have b := shownAll_bnd xs h'.2
    show piled (shown x :: shownAll xs) ≤ bnd x + 2 + bndAll xs
    rw [piled_cons]
    omega
theorem shownKv_bnd : ∀ kvs : List (PyData × PyData), cpKv kvs = true → piled (shownKv kvs) ≤ bndKv kvs
  | [], _ => Nat.le_refl _
  | (k, v) :: r, h => by
    have h' := Bool.and_eq_true_iff.mp (show (cpOk k && cpOk v && cpKv r) = true from h)
    have h2 := Bool.and_eq_true_iff.mp h'.1
    have a := shown_bnd k h2.1
    have a2 := shown_bnd v h2.2
    have b := shownKv_bnd r h'.2
    show piled ((shown k ++ ": " ++ shown v) :: shownKv r) ≤ bnd k + bnd v + 4 + bndKv r
    rw [piled_cons, strLen_append, strLen_append]
    have e2 : ((": " : String) : Str).length = 2 := rfl
    omega
end
end Z

set_option Elab.async false
set_option linter.all false
set_option maxRecDepth 100000
set_option maxHeartbeats 4000000
/-! Zd: dicts: update, a dict held beside an empty one; short steps. -/
namespace Z
open PySem PySem.Spec PyProof.Rows L2
/-- d.update(e) -/
def rDUpd : V → List V → Hp → VK → Prop := fun x vs H Q => ∃ (a c : Addr) (kvs more : List (Key × V)), x = .ref a ∧ vs = [.ref c] ∧ H a = some (.dK kvs) ∧ Rd H c (.dK more) ∧ a ≠ c ∧ kvs.length + more.length ≤ sizeLine ∧ Q .non (upd H a (.dK (mergeK kvs more)))
theorem mt_dupd {X : Cx} : MtR X "dict.update" rDUpd := by
  intro pins s σ H x vs v us Q I rx rv h
  obtain ⟨a, c, kvs, more, rfl, rfl, ea, ec, ne, sz, q⟩ := h
  cases rx
  obtain ⟨u, rfl, ru⟩ := vals1 rv
  cases ru
  obtain ⟨_, na, va, ra, da⟩ := dk_of I.hok ea
  obtain ⟨_, nc, vc, rc, dc⟩ := dk_rd I.hok ec
  have k1 : va.length + vc.length ≤ sizeLine := by rw [← ra.length, ← rc.length]; exact sz
  refine call_meetsIn PySem.F.slot_dict_update da.typeIs PySem.F.entry_dict_update (PySem.F.args_dict_update_2 _ _) (meets_dict_update (mixKind X.prog X.w) a c ne nc) ⟨va, vc, da, dc, k1, fun h' dm _ sb => ?_⟩
  have at_ : ∃ ob, h'.get? a = some ob := by
    obtain ⟨ob, _, _, g, _⟩ := dm
    exact ⟨ob, g⟩
  have ok : (mergeK kvs more).length ≤ sizeLine := Nat.le_trans (length_mergeK more kvs) sz
  have new : ObjOk X.prog X.w (upd H a (.dK (mergeK kvs more))) h' a (.dK (mergeK kvs more)) := dk_new ok na (rc.merge ra) dm
  exact ⟨.non, _, d_write (t' := s.toks) I (by rw [ea]; exact True.intro) sb at_ new, rfl, q⟩
/-- d != {}, d == {}: c is an empty dict -/
def rNeD0 : R2 := fun x y H Q => ∃ (a c : Addr) (kvs : List (Key × V)), x = .ref a ∧ y = .ref c ∧ H a = some (.dK kvs) ∧ H c = some (.dK []) ∧ Q (.bl (!kvs.isEmpty)) H
theorem op_neD0 {X : Cx} (hu : X.A.units < cLine) : OpR X (compareOp .NotEq) rNeD0 := by
  intro pins s σ H x y v u Q I rx ry h
  obtain ⟨a, c, kvs, rfl, rfl, ea, ec, q⟩ := h
  cases rx
  cases ry
  obtain ⟨_, na, va, ra, da⟩ := dk_of I.hok ea
  obtain ⟨_, nc, vc, rc, dc⟩ := dk_of I.hok ec
  have l0 : vc.length = 0 := rc.length.symm
  have la : kvs.length = va.length := ra.length
  refine PySem.W.keq_ne (knd := mixKind X.prog X.w) (r := true) na nc da dc hu (fun e => ?_) ?_
  · have : va = [] := List.length_eq_zero_iff.mp (e.trans l0)
    subst this
    exact .nil
  · refine ⟨.bl (!kvs.isEmpty), H, I, ?_, q⟩
    rw [Bool.and_true, l0]
    show _ = _
    cases kvs with
    | nil =>
      rw [show va.length = 0 from la.symm]
      rfl
    | cons p r =>
      rw [← la]
      rfl
abbrev cListD : List V → Hp → VK → Prop := fun xs H Q => ∃ (a : Addr) (kvs : List (Key × V)), xs = [.ref a] ∧ Rd H a (.dK kvs) ∧ ∀ p, H p = none → Q (.ref p) (upd H p (.lst (kvs.map fun kv => kV kv.1)))
abbrev cDictD : List V → Hp → VK → Prop := fun xs H Q => ∃ (a : Addr) (kvs : List (Key × V)), xs = [.ref a] ∧ Rd H a (.dK kvs) ∧ ∀ p, H p = none → Q (.ref p) (upd H p (.dK kvs))
abbrev cDictP (K : PySem.W.Frag) : List V → Hp → VK → Prop := fun xs H Q => ∃ (a : Addr) (ps : List Addr) (kvs : List (Key × V)), xs = [.ref a] ∧ SqL K H a (ps.map V.ref) ∧ Paired (fun p kv => SqT K H p [kV kv.1, kv.2]) ps kvs ∧ ∀ p, H p = none → Q (.ref p) (upd H p (.dK (mergeK [] kvs)))
section
variable {σ : L2.St} {H : Hp} {Q : VK} {D : Ends} {td ty tx tv : TE} {ts : TS} {te : TE} {trs : List (TE × TE)}
theorem z_dget (q : td σ H fun x H1 => ty σ H1 fun y H2 => ∃ a v, x = .ref a ∧ DGet H2 a y (some v) ∧ Q v H2) : tDGet td ty σ H Q := q
theorem z_dget1 (q : td σ H fun x H1 => ∃ a, x = .ref a ∧ IsD H1 a ∧ ty σ H1 fun y H2 => ∃ o, DGet H2 a y o ∧ Q (o.getD .non) H2) : tDGet1 td ty σ H Q := q
theorem z_dget2 (q : td σ H fun x H1 => ∃ a, x = .ref a ∧ IsD H1 a ∧ ty σ H1 fun y H2 => tx σ H2 fun z H3 => ∃ o, DGet H3 a y o ∧ Q (o.getD z) H3) : tDGet2 td ty tx σ H Q := q
theorem z_din (q : ty σ H fun y H1 => td σ H1 fun x H2 => ∃ a o, x = .ref a ∧ DGet H2 a y o ∧ Q (.bl o.isSome) H2) : tDIn ty td σ H Q := q
theorem z_dnotin (q : ty σ H fun y H1 => td σ H1 fun x H2 => ∃ a o, x = .ref a ∧ DGet H2 a y o ∧ Q (.bl (!o.isSome)) H2) : tDNotIn ty td σ H Q := q
theorem z_dput (q : tv σ H fun v H1 => td σ H1 fun x H2 => ty σ H2 fun y H3 => ∃ a H4, x = .ref a ∧ DPut H3 a y v H4 ∧ D.nx σ H4) : sDPut td ty tv D σ H := q
theorem z_dpop1 (q : td σ H fun x H1 => ∃ a, x = .ref a ∧ IsD H1 a ∧ ty σ H1 fun y H2 => ∃ kvs k v, H2 a = some (.dK kvs) ∧ y = kV k ∧ valV kvs k = some v ∧ Q v (upd H2 a (.dK (dropK kvs k)))) : tDPop1 td ty σ H Q := q
theorem z_disp (q : ∀ p, H p = none → tPairs trs σ (upd H p (.dK [])) fun ps H2 => H2 p = some (.dK []) ∧ ∃ kvs : List (Key × V), ps = kvs.map (fun kv => (kV kv.1, kv.2)) ∧ kvs.length ≤ 15 ∧ Q (.ref p) (upd H2 p (.dK (mergeK [] kvs)))) : tDisp trs σ H Q := q
theorem z_pairs0 {R : List (V × V) → Hp → Prop} (q : R [] H) : tPairs [] σ H R := q
theorem z_pairs {R : List (V × V) → Hp → Prop} {tk tw : TE} (q : tk σ H fun x H1 => tw σ H1 fun y H2 => tPairs trs σ H2 fun ps H3 => R ((x, y) :: ps) H3) : tPairs ((tk, tw) :: trs) σ H R := q
theorem z_lock {d : Addr} {u : HO} (h : H d = some u) (mu : Mut (some u)) (q : ∀ od, ts ⟨fun σ' H' => H' d = some (.frz od u) ∧ D.nx σ' (upd H' d u), fun v H' => H' d = some (.frz od u) ∧ D.rt v (upd H' d u), fun σ' H' => H' d = some (.frz od u) ∧ D.bk σ' (upd H' d u), fun σ' H' => H' d = some (.frz od u) ∧ D.ct σ' (upd H' d u)⟩ σ (upd H d (.frz od u))) : tLock ts D σ H := ⟨d, u, h, mu, q⟩
theorem z_lockE {d : Addr} {u : HO} (h : H d = some u) (mu : Mut (some u)) (q : ∀ od, te σ (upd H d (.frz od u)) fun v H' => H' d = some (.frz od u) ∧ Q v (upd H' d u)) : tLockE te σ H Q := ⟨d, u, h, mu, q⟩
end
end Z

set_option Elab.async false
set_option linter.all false
set_option maxRecDepth 100000
set_option maxHeartbeats 4000000
/-! Zt: texts with signs that texts may have; joins of single signs; lists of texts as data. -/
namespace Z
open PySem PySem.Spec PyProof.Rows L2
open Evl (Ex ex_l ex_t ex_rd sq_of st_of fresh_back RetL RetV)
/-- signs that a text may have -/
def okS (l : List Nat) : Prop := ∀ c ∈ l, c < 1114112
/-! ### texts with signs that texts may have -/
def okT (z : Str) (n : Nat) : Prop := z.length ≤ n ∧ okS z.cps.toList
theorem okT.mono {z : Str} {m n : Nat} (h : okT z m) (e : m ≤ n) : okT z n := ⟨Nat.le_trans h.1 e, h.2⟩
theorem okS_of (s : String) : okS (Str.ofString s).cps.toList := by
  rw [Str.ofString_eq_toList]
  intro c hc
  have hc' : c ∈ s.toList.map Char.toNat := by simpa using hc
  obtain ⟨ch, _, rfl⟩ := List.mem_map.mp hc'
  have := ch.valid
  show ch.val.toNat < 1114112
  rcases this with h | ⟨_, h⟩
  · exact Nat.lt_trans h (by decide)
  · exact h
theorem okT.of (s : String) {n : Nat} (h : (Str.ofString s).length ≤ n) : okT (Str.ofString s) n := ⟨h, okS_of s⟩
theorem tl_app (a b : Str) : (a ++ b).cps.toList = a.cps.toList ++ b.cps.toList := by
  show (a.cps ++ b.cps).toList = _
  simp
theorem okT.app {a b : Str} {m n : Nat} (h : okT a m) (k : okT b n) : okT (a ++ b) (m + n) := by
  refine ⟨by rw [txt_app_len]; exact Nat.add_le_add h.1 k.1, fun c hc => ?_⟩
  rw [tl_app] at hc
  exact (List.mem_append.mp hc).elim (h.2 c) (k.2 c)
theorem okT.cut {a : Str} {m : Nat} (lo hi : Option Int) (h : okT a m) : okT (cutS a lo hi) m := by
  refine ⟨Nat.le_trans (cutS_le _ _ _) h.1, ?_⟩
  rw [S_of a, S_cut, S_tl]
  exact fun c hc => h.2 c (List.mem_of_mem_drop (List.mem_of_mem_take hc))
theorem okT.one {a : Str} {m c : Nat} (h : okT a m) (hc : c ∈ a.cps.toList) : okT ⟨#[c]⟩ 1 := by
  refine ⟨Nat.le_refl _, fun d hd => ?_⟩
  have : d = c := by simpa using hd
  rw [this]
  exact h.2 c hc
theorem okT.S {l : List Nat} {n : Nat} (h : l.length ≤ n) (k : okS l) : okT (Z.S l) n := by
  refine ⟨by rw [S_len]; exact h, ?_⟩
  rw [S_tl]
  exact k
theorem okT.sz {z : Str} {n : Nat} (h : okT z n) (hn : n ≤ 1000) : z.length ≤ sizeLine := szl (Nat.le_trans h.1 hn)
theorem okT.ret {z : Str} {n : Nat} {H : Hp} {Q : VK} (h : okT z n) (q : ∀ l : List Nat, l.length ≤ n → okS l → RetV (.str (Z.S l)) H Q) : RetV (.str z) H Q := by
  rw [S_of z]
  exact q _ h.1 h.2
theorem okS_sub {l m : List Nat} (h : okS l) (k : ∀ c ∈ m, c ∈ l) : okS m := fun c hc => h c (k c hc)

theorem one_eq (n : Nat) : (⟨#[n]⟩ : Str) = S [n] := rfl
theorem empty_str : (Str.ofString "" : Str) = S [] := by decide +kernel
theorem given_all (n : Nat) (v : Nat → V) : Evl.given n (fun _ => true) v = (List.range n).map v := by
  unfold Evl.given
  rw [List.filter_eq_self.mpr (fun _ _ => rfl)]
theorem sum_ones : ∀ (n : Nat) (f : Nat → Nat), (∀ i, f i = 1) → ((List.range n).map f).sum = n
  | 0, _, _ => rfl
  | n + 1, f, h => by
    rw [List.range_succ, List.map_append, List.sum_append, sum_ones n f h]
    simp [h]
/-- a text put together of single signs -/
theorem z_join1 {K : PySem.W.Frag} {H : Hp} {Q : VK} {p : Addr} {n : Nat} {f : Nat → Nat} (h : H p = some (.lst ((List.range n).map fun k => V.str ⟨#[f k]⟩))) (hn : n ≤ 1000) (q : Q (.str (S ((List.range n).map f))) H) : rJoin K (.str (Str.ofString "")) [.ref p] H Q := by
  refine ⟨_, p, (List.range n).map (fun k => S [f k]), rfl, rfl, .inl ?_, ?_, ?_⟩
  · rw [List.map_map]
    exact sq_of h
  · rw [List.map_map, List.length_map, List.length_range, show (Str.ofString "" : Str).length = 0 by decide +kernel, sum_ones n ((fun x : Str => x.length) ∘ fun k : Nat => S [f k]) fun i => rfl]
    omega
  · rw [empty_str]
    have e : (List.range n).map (fun k => S [f k]) = ((List.range n).map fun k => [f k]).map S := by rw [List.map_map] <;> rfl
    have g : ∀ l : List Nat, (l.map fun k => [f k]).flatten = l.map f := fun l => by
      induction l with
      | nil => rfl
      | cons a r ih => rw [List.map_cons, List.flatten_cons, ih] <;> rfl
    rw [e, join_S, g]
    exact q
theorem strOk_S {l : List Nat} (h : okS l) : PyData.strOk (S l) = true := by
  unfold PyData.strOk
  rw [← Array.all_toList, S_tl, List.all_eq_true]
  exact fun c hc => decide_eq_true (h c hc)
theorem strOk_T {z : Str} {n : Nat} (h : okT z n) : PyData.strOk z = true := by
  rw [S_of z]
  exact strOk_S h.2
theorem strs_dp {K : PySem.W.Frag} {H : Hp} : ∀ {zs : List Str}, (∀ z ∈ zs, ∃ n, okT z n) → DpAll K H (zs.map V.str) (zs.map PyData.str) ∧ clAll (zs.map PyData.str) = true ∧ PyData.depthAll (zs.map PyData.str) = 0
  | [], _ => ⟨.nil, rfl, rfl⟩
  | z :: zs, h => by
    obtain ⟨n, hz⟩ := h z List.mem_cons_self
    obtain ⟨a, b, c⟩ := strs_dp (K := K) (H := H) fun u hu => h u (List.mem_cons_of_mem _ hu)
    refine ⟨.cons (.str z) a, ?_, ?_⟩
    · show (PyData.strOk z && clAll (zs.map PyData.str)) = true
      rw [strOk_T hz, b] <;> rfl
    · show max 0 (PyData.depthAll (zs.map PyData.str)) = 0
      rw [c] <;> rfl
end Z

set_option Elab.async false
set_option linter.all false
set_option maxRecDepth 100000
set_option maxHeartbeats 4000000
/-! Zr: list(reversed(xs)) of a list. -/
namespace Z
open PySem PySem.Spec PyProof.Rows L2
section
variable {prog : Program} {w : World} {A : Around} {E : Value → Shared → Prop} {s : Shared}
/-- a list that stands empty is filled by a reversing iterator -/
theorem fill_rev {R : Result → Shared → Prop} {T it l : Addr} {items : Array Value} {res : Value} {c0 : Nat} (hh : A.handled = none) (hit : s.heap.IsRevIter it l ((items.size : Int) - 1)) (hl : s.heap.IsList l items) (ne : l ≠ it) (n1 : T ≠ it) (n2 : T ≠ l) (hn : items.size ≤ sizeLine)
    (hT : s.heap.get? T = some { cls := .type "list", data := .seq #[] c0 })
    (hR : ∀ h' tk acc c, (∀ b o, b ≠ T → b ≠ it → s.heap.get? b = some o → h'.get? b = some o) → h'.get? T = some { cls := .type "list", dict := none, data := .seq acc c, slots := #[] } → ItemsOf (fun i v => items[items.size - 1 - i]? = some v) acc items.size → R (.ok (.ret res)) { s with heap := h', toks := tk }) :
    wpAny (model prog w) A.in1 (Builtin.List.listExtendWith (.ref T) (.ref it) res) (fun fin s' => match fin with | .done f => R (.ok f) s' | .again c' => c'.quiet = true ∧ codeAny (model prog w) A c' R s') (fun e s' => R (.error e) s') s := by
  have W := (Walks.listRev (prog := prog) (w := w) (A := A.in1) hh it l ne items).toS
  have off : T ∉ [it, l] := by simp [n1, n2]
  have ty : s.TypeIs (.ref it) "list_reverseiterator" := hit.typeIs
  have nsame : Builtin.List.listSameRef (.ref T) (.ref it) = false := by simp [Builtin.List.listSameRef, n1]
  (unfold Builtin.List.listExtendWith; skip)
  refine wpAny_bind (wpAny_typeOf ty ?_)
  rw [if_neg (by rw [nsame]; decide)]
  refine wpAny_bind (wpAny_pyIter_revIter hit (wpAny_bind (wpAny_holding ?_)))
  (unfold Builtin.List.listLengthHint; skip)
  refine wpAny_bind (wpAny_specialOf ty RT.nolen_lri ?_)
  show wpAny _ _ (specialOf (Value.ref it) (Str.ofString "__length_hint__") >>= _) _ _ _
  refine wpAny_bind (wpAny_specialOf ty RT.hint_lri ?_)
  generalize nm0 : ("list_reverseiterator.__length_hint__" : String) = nm
  (wp_delta; rw [show splitId nm = some ("list_reverseiterator", "__length_hint__") by subst nm0; decide +kernel]; subst nm0)
  refine wpAny_bind (wpAny_isInstance (b := true) ty (by rw [isSubtype_type]; kernel_rfl) (wpAny_pure ?_))
  rw [if_neg (by decide)]
  have z : ((items.size : Nat) : Int) - 1 - ((0 : Nat) : Int) = (items.size : Int) - 1 := by omega
  refine wpAny_pure ⟨plainId_quiet F.plain_extend_loop _, codeAny_extend_loopS W hn T off res items.size 0 _ #[] c0 rfl (Nat.zero_le _) ⟨Nat.zero_le _, by rw [z]; exact hit, hl⟩ hT (ItemsOf.nil _) fun s' acc c hm hT' hacc => ?_⟩
  rw [Moved.eq_with hm]
  refine hR s'.heap s'.toks acc c (fun b o b1 b2 e => hm.heap b o (fun m => ?_) e) hT' hacc
  rcases List.mem_cons.mp m with m | m
  · exact b1 m
  · exact b2 (List.mem_singleton.mp m)
theorem call_list_rev {it l : Addr} {items : Array Value} {Q : Value → Shared → Prop} (hh : A.handled = none) (hit : s.heap.IsRevIter it l ((items.size : Int) - 1)) (hl : s.heap.IsList l items) (ne : l ≠ it) (hn : items.size ≤ sizeLine)
    (hQ : ∀ h' tk acc c, (∀ b o, b ≠ it → s.heap.get? b = some o → h'.get? b = some o) → h'.get? s.heap.objs.size = some { cls := .type "list", dict := none, data := .seq acc c, slots := #[] } → ItemsOf (fun i v => items[items.size - 1 - i]? = some v) acc items.size → Q (.ref s.heap.objs.size) { s with heap := h', toks := tk }) :
    wpAny (model prog w) A (call (.type "list") [.ref it]) Q E s := by
  obtain ⟨oi, gi, _⟩ := id hit
  obtain ⟨ol, gl, _⟩ := id hl
  have si : s.heap.objs.size ≠ it := Nat.ne_of_gt (Heap.lt_size gi)
  have sl : s.heap.objs.size ≠ l := Nat.ne_of_gt (Heap.lt_size gl)
  refine callType_codes (Q₁ := fun obj s₁ => obj = .ref s.heap.objs.size ∧ s₁ = { s with heap := s.heap.push { cls := .type "list", data := .seq #[] } }) PySem.F.called_list (PySem.F.typeCall_list_1 _) PySem.F.entry_list_init (code_list_new _ ⟨rfl, rfl⟩) ?_
  rintro obj s₁ ⟨rfl, rfl⟩
  have new : (s.heap.push { cls := .type "list", data := .seq #[] }).get? s.heap.objs.size = some { cls := .type "list", data := .seq #[] } := Heap.get?_push_size _ rfl
  have up : ∀ b o, s.heap.get? b = some o → (s.heap.push { cls := .type "list", data := .seq #[] }).get? b = some o := fun b o e => Heap.get?_push_of_some _ e
  refine ⟨⟨_, new, rfl⟩, PySem.F.args_list_init_2 _ _, ?_⟩
  show wpAny _ _ (Builtin.List.listItems (.ref s.heap.objs.size) >>= _) _ _ _
  refine wpAny_bind ?_
  (unfold Builtin.List.listItems; skip)
  refine wpAny_bind (wpAny_seqItems new rfl (wpAny_pure ?_))
  show wpAny _ _ (updateSeq s.heap.objs.size (fun _ => #[]) >>= fun _ => letGo (#[] : Array Value).toList.reverse >>= fun _ => Builtin.List.listExtendWith (.ref s.heap.objs.size) (.ref it) .none) _ _ _
  refine wpAny_bind (wpAny_updateSeq new rfl ?_)
  have new2 := Heap.get?_update_self (Obj.mapSeq (fun _ => (#[] : Array Value))) new rfl
  have oth : ∀ b o, b ≠ s.heap.objs.size → s.heap.get? b = some o → ((s.heap.push { cls := .type "list", data := .seq #[] }).update s.heap.objs.size (Obj.mapSeq (fun _ => (#[] : Array Value)))).get? b = some o := fun b o hb e => (Heap.get?_update_other _ _ (Ne.symm hb)).trans (up b o e)
  refine wpAny_bind (wpAny_letGo ?_)
  refine fill_rev (A := A.in1) hh (hit.at fun o e => oth it o si.symm e) (hl.at fun o e => oth l o sl.symm e) ne si sl hn new2 fun h' tk acc c kp at_ ac => ?_
  exact ⟨rfl, hQ h' tk acc c (fun b o hb e => kp b o (Nat.ne_of_lt (Heap.lt_size e)) hb (oth b o (Nat.ne_of_lt (Heap.lt_size e)) e)) at_ ac⟩
end
/-- list(reversed(xs)): a new list -/
def tRevOf (K : PySem.W.Frag) (te : TE) : TE := fun σ H Q => te σ H fun x H1 => ∃ (a : Addr) (xs : List V), x = .ref a ∧ SqL K H1 a xs ∧ ∀ q, H1 q = none → Q (.ref q) (upd H1 q (.lst xs.reverse))
theorem pe_revOf {X : Cx} {e : Expr} {te : TE} {p1 p2 q1 q2 : Pos} (calm : X.calm = true) (g1 : Gl X "list") (m1 : X.mg "list" = none) (g2 : Gl X "reversed") (m2 : X.mg "reversed" = none) (he : PE X e te)
    (s1 : starEach [e] X.env = (false, eval e X.env) :: starEach [] X.env := by rfl)
    (s2 : starEach [.Call (.Name "reversed" p2) [e] [] q2] X.env = (false, eval (.Call (.Name "reversed" p2) [e] [] q2) X.env) :: starEach [] X.env := by rfl) :
    PE X (.Call (.Name "list" p1) [.Call (.Name "reversed" p2) [e] [] q2] [] q1) (tRevOf X.K te) := by
  refine ⟨fun pins s σ H Q I h => ?_⟩
  have inner : ∀ {s' : Shared} {H' : Hp}, Inv X pins σ H' s' → ∀ {u : Value} {x : V}, RelV x u → (∃ (a : Addr) (xs : List V), x = .ref a ∧ SqL X.K H' a xs ∧ ∀ q, H' q = none → Q (.ref q) (upd H' q (.lst xs.reverse))) →
      wpAny (model X.prog X.w) X.A (call (.type "reversed") [u]) (fun it s'' => wpAny (model X.prog X.w) X.A (call (.type "list") [it]) (EP X pins σ Q) X.xe s'') X.xe s' := fun {s' H'} I1 {u x} rx hx => by
    obtain ⟨a, xs, rfl, hs, q⟩ := hx
    cases rx
    obtain ⟨its, rv, pl, sz⟩ := I1.list hs
    refine call_reversed_list pl.isList ?_
    have up : ∀ b o, s'.heap.get? b = some o → (s'.heap.push (revObj a ((its.toArray.size : Int) - 1))).get? b = some o := fun b o g => Heap.get?_push_of_some _ g
    obtain ⟨ol, gl, _⟩ := id pl.isList
    have ne : a ≠ s'.heap.objs.size := Nat.ne_of_lt (Heap.lt_size gl)
    have nz : its.toArray.size ≤ sizeLine := by
      rw [List.size_toArray, ← rv.length]
      exact sz
    refine call_list_rev (s := { s' with heap := s'.heap.push (revObj a ((its.toArray.size : Int) - 1)) }) (I1.ok.hd calm) ⟨_, Heap.get?_push_size _ rfl, rfl, rfl⟩ (pl.isList.push _) ne nz fun h' tk acc c kp at_ ac => ?_
    have sz' : (s'.heap.push (revObj a ((its.toArray.size : Int) - 1))).objs.size = s'.heap.objs.size + 1 := by rw [size_push']
    rw [sz'] at at_ ⊢
    have big : s'.heap.objs.size ≤ s'.heap.objs.size + 1 := Nat.le_succ _
    have new : ObjOk X.prog X.w (upd H' (s'.heap.objs.size + 1) (.lst xs.reverse)) h' (s'.heap.objs.size + 1) (.lst xs.reverse) := by
      refine ⟨?_, acc.toList, c, RT.vals_rev rv ac, ?_⟩
      · rw [List.length_reverse]
        exact sz
      · rw [Array.toArray_toList]
        exact at_
    exact ⟨.ref (s'.heap.objs.size + 1), _, I1.laid (t' := tk) (fun b o g => kp b o (Nat.ne_of_lt (Heap.lt_size g)) (up b o g)) big new, rfl, q _ (I1.hok.fresh big)⟩
  refine Call_ (ld_blt I g1 m1 boot_list (PyProof.Rows.callWith_type1 (args_cons ?_ s2) s2 rfl))
  refine Call_ (ld_blt I g2 m2 PyProof.Rows.boot_reversed (PyProof.Rows.callWith_type1 (args_cons (thn (he.run pins s σ H _ I h) fun u s' ⟨x, H1, I1, rx, hx⟩ => args_nil ?_) s1) s1 rfl))
  exact wpAny_mono (inner I1 rx hx) (fun it s'' h => args_nil h) fun _ _ h => h
end Z

set_option Elab.async false
set_option linter.all false
set_option maxRecDepth 100000
set_option maxHeartbeats 4000000
/-! Zk: written dicts with text keys, whose values are plain or tuples of plain things; a head's facts with such tables. -/
namespace Z
open PySem PySem.Spec PyProof.Rows L2 He
inductive TV where
  | v (x : V)
  | tup (xs : List V)
def tupAt (K : PySem.W.Frag) (b : Addr) (vs : List V) : Bool := match K.lookup b with
  | some ⟨.type c, _, .seq its _, _⟩ => decide (c = "tuple") && (decide (its.size ≤ sizeLine) && relAll vs its.toList)
  | _ => false
theorem tupAt_ok {K : PySem.W.Frag} {b : Addr} {vs : List V} (h : tupAt K b vs = true) (H : Hp) : SqT K H b vs := by
  unfold tupAt at h
  cases q : K.lookup b with
  | none =>
    rw [q] at h
    cases h
  | some o =>
    obtain ⟨oc, od, dt, osl⟩ := o
    rw [q] at h
    cases oc with
    | type c =>
      cases dt with
      | seq its n =>
        have h0 : (decide (c = "tuple") && (decide (its.size ≤ sizeLine) && relAll vs its.toList)) = true := h
        obtain ⟨h1, h2⟩ := ba h0
        obtain ⟨h3, h4⟩ := ba h2
        exact .inr ⟨_, its, n, q, congrArg Value.type (of_decide_eq_true h1), rfl, of_decide_eq_true h3, relAll_ok h4⟩
      | _ => cases h
    | _ => cases dt <;> cases h
def tvB (K : PySem.W.Frag) : TV → Value → Bool
  | .v x, u => relB x u
  | .tup xs, .ref b => tupAt K b xs
  | .tup _, _ => false
def tabB (K : PySem.W.Frag) (a : Addr) (kvs : List (Str × TV)) : Bool := kvs.all fun p => match PySem.W.nsIn K a p.1 with
  | some (some u) => tvB K p.2 u
  | _ => false
def TvAt (K : PySem.W.Frag) (w : World) (a : Addr) (z : Str) : TV → Prop
  | .v x => KDct K w a z x
  | .tup xs => ∃ b, KDct K w a z (.ref b) ∧ ∀ H, SqT K H b xs
structure TabK (K : PySem.W.Frag) (w : World) (a : Addr) (kvs : List (Str × TV)) : Prop where
  d : ∃ es n, KDict K w a es n
  get : ∀ z t, (z, t) ∈ kvs → TvAt K w a z t
theorem tab_mk {K : PySem.W.Frag} {w : World} {a : Addr} {kvs : List (Str × TV)} (d : ∃ es n, KDict K w a es n) (h : tabB K a kvs = true) : TabK K w a kvs := by
  refine ⟨d, fun z t hm => ?_⟩
  obtain ⟨es, n, D⟩ := d
  have h1 := List.all_eq_true.mp h (z, t) hm
  cases e : PySem.W.nsIn K a z with
  | none =>
    rw [show PySem.W.nsIn K a (z, t).1 = none from e] at h1
    cases h1
  | some r =>
    rw [show PySem.W.nsIn K a (z, t).1 = some r from e] at h1
    cases r with
    | none => cases h1
    | some u =>
      have h2 : tvB K t u = true := h1
      cases t with
      | v x => exact ⟨es, n, u, D.at_, D.lit, e, relB_ok h2⟩
      | tup xs =>
        cases u with
        | ref b => exact ⟨b, ⟨es, n, .ref b, D.at_, D.lit, e, rfl⟩, tupAt_ok h2⟩
        | _ => cases h2
abbrev AlK : Type := (AlD × Bool) × List (Option (List (Option (Str × Int))))
def lookK (fa : List Fa) (fn : List DefD) (ex : PySem.W.Frag → Bool) (ts : List (Str × List Str)) (n : Nat) (g : Addr → Option Obj) : AlK :=
  (lookZ fa fn ex n g, ts.map fun t => dicW (frG g (asD g n)) (ga (frG g (asD g n)) t.1))
def hookK (fa : List Fa) (fn : List DefD) (ex : PySem.W.Frag → Bool) (ts : List (Str × List Str)) (n : Nat) : PySem.W.Hook where
  α := AlK
  obs := fun st => lookK fa fn ex ts n st.heap.get?
  val := fun w => ((valD fn, true), ts.map fun t => some (keysIn w.params t.2))
  says := fun w hp => ∃ F : PySem.W.Frag, F.In hp ∧ SaysD fa fn F ∧ ex F = true ∧ (ts.map fun t => dicW F (ga F t.1)) = ts.map fun t => some (keysIn w.params t.2)
  of := fun w s eq => by
    have e : lookK fa fn ex ts n s.heap.get? = ((valD fn, true), ts.map fun t => some (keysIn w.params t.2)) := eq
    exact ⟨_, frG_in, congrArg (fun z : AlK => z.1.1) e, congrArg (fun z : AlK => z.1.2) e, congrArg (fun z : AlK => z.2) e⟩
  keeps := fun _ _ _ ⟨F, hF, cF, xF, tF⟩ kp => ⟨F, PySem.W.Frag.In.keeps hF kp, cF, xF, tF⟩
theorem lookK_eq {fa : List Fa} {fn : List DefD} {ex : PySem.W.Frag → Bool} {ts : List (Str × List Str)} {n : Nat} {g : Addr → Option Obj} {st : Shared} (hg : ∀ a, g a = st.heap.get? a) : lookK fa fn ex ts n g = (hookK fa fn ex ts n).obs st := by
  have e : g = st.heap.get? := funext hg
  subst e
  rfl
theorem tabs_at {w : World} {F : PySem.W.Frag} {ts : List (Str × List Str)} (h : (ts.map fun t => dicW F (ga F t.1)) = ts.map fun t => some (keysIn w.params t.2)) (i : Nat) {t : Str × List Str} (e : ts[i]? = some t) : ∃ es n, KDict F w (ga F t.1) es n := by
  have e2 : (ts.map fun t => dicW F (ga F t.1))[i]? = (ts.map fun t => some (keysIn w.params t.2))[i]? := by rw [h]
  rw [List.getElem?_map, List.getElem?_map, e] at e2
  exact dicW_ok (Option.some.inj e2)
section
variable {K : PySem.W.Frag} {w : World} {H : Hp} {Q : VK} {a : Addr} {z : Str} {v : V}
theorem z_ixK (h : KDct K w a z v) (q : Q v H) : rIxD K w (.ref a) (.str z) H Q := ⟨a, z, v, rfl, rfl, h, q⟩
end
end Z

set_option Elab.async false
set_option linter.all false
set_option maxRecDepth 100000
set_option maxHeartbeats 4000000
/-! Zq: what stays but at some places; comprehensions over enumerate, and by one's own invariant; dicts by written keys. -/
namespace Z
open PySem PySem.Spec PyProof.Rows L2
open Evl (Ex ex_l ex_t ex_rd sq_of st_of fresh_back RetL RetV)
/-- all but what may be written stays -/
def But (B : List Addr) (H H' : Hp) : Prop := ∀ b o, b ∉ B → H b = some o → H' b = some o
section
variable {B C : List Addr} {H H' H2 : Hp} {p : Addr} {o : HO}
theorem But.refl : But B H H := fun _ _ _ h => h
theorem But.ex (e : Ex H H') : But B H H' := fun b o _ h => e b o h
theorem But.trans (a : But B H H') (b : But B H' H2) : But B H H2 := fun c o hc h => b c o hc (a c o hc h)
theorem But.mono (a : But B H H') (s : ∀ b ∈ B, b ∈ C) : But C H H' := fun c o hc h => a c o (fun z => hc (s c z)) h
theorem But.put (h : p ∈ B) : But B H (upd H p o) := fun b u hb e => by
  rw [upd_ne fun z => hb (by rw [z]; exact h)]
  exact e
theorem But.put' (a : But B H H') (h : p ∈ B) : But B H (upd H' p o) := a.trans (But.put h)
theorem But.mut (a : But B H H') (h : H p = none) : But B H (upd H' p o) := fun b u hb e => by
  rw [upd_ne (ne_of_none e h)]
  exact a b u hb e
theorem But.exOf (a : But B H H') (h : ∀ b ∈ B, H b = none) : Ex H H' := fun b u e => a b u (fun z => by
  rw [h b z] at e
  cases e) e
/-- an address that is new later was new ahead, but for the places -/
theorem But.fresh (a : But B H H') (h : H' p = none) (hp : p ∉ B) : H p = none := by
  cases e : H p with
  | none => rfl
  | some u =>
    have := a p u hp e
    rw [h] at this
    cases this
end
/-! ### comprehensions over enumerate -/
def CE (K : PySem.W.Frag) (g : TG) (tt : TT) (te : TE) (vs : List Nat) (σ : L2.St) (xs : List V) (H1 : Hp) (Q : VK) : Prop := ∃ a ys, xs = [.ref a] ∧ SqL K H1 a ys ∧ CW (Ite K a) g tt te vs σ H1 Q
section
variable {K : PySem.W.Frag} {σ : L2.St} {H : Hp} {Q : VK} {g : TG} {tt : TT} {te tl : TE} {ta : TA} {vs : List Nat} {a : Addr} {xs : List V} {n j m : Nat}
theorem z_ce (q : ta σ H fun x H1 => CE K g tt te vs σ x H1 Q) : tLc (iEnum K ta) g tt te vs σ H Q := q
theorem z_CE (hx : SqL K H a xs) (hz : xs.length ≤ 40000) (f : Nat → Bool) (v : Nat → V) (hw : ∀ x y, wipe (((wipe σ vs).set m (some x)).set j (some y)) vs = wipe σ vs)
    (ht : ∀ i x H', i < xs.length → xs[i]? = some x → Ex H H' → Evl.EvT tt (((wipe σ vs).set m (some (.int (i : Nat)))).set j (some x)) H' (f i)) (he : ∀ i x H', i < xs.length → xs[i]? = some x → Ex H H' → f i = true → Evl.Ev te (((wipe σ vs).set m (some (.int (i : Nat)))).set j (some x)) H' (v i))
    (q : ∀ p H2, H p = none → Ex H H2 → H2 p = some (.lst (Evl.given xs.length f v)) → Q (.ref p) H2) : CE K (gTup K 2 (gCons (gName m) (gCons (gName j) gNil))) tt te vs σ [.ref a] H Q :=
  ⟨a, xs, rfl, hx, fun Dl hD => lc_it walk_enum (Evl.Cw H f v Dl) ⟨hD, Ex.new hD, upd_same⟩ (fun _ _ _ p => ex_l p.2.1 hx) (fun i x H1 H2 hi p y => by
    obtain ⟨T, u, x', rfl, e1, rfl, e3, e4⟩ := y
    cases e3
    refine z_gtup2 (st_of upd_same) ⟨hw _ _, ?_⟩
    have p2 : Evl.Cw H f v Dl i (upd H1 T (.tup [.int (i : Nat), x'])) := ⟨p.1, p.2.1.trans (Ex.new e1), Ex.new e1 _ _ p.2.2⟩
    exact Evl.cw_turn p2 (by omega) (ht i x' H hi e4 (Ex.refl H)) fun hf => he i x' H hi e4 (Ex.refl H) hf) (fun H' p => q Dl H' p.1 p.2.1 p.2.2)⟩
/-- one's own invariant: over a range, a list, enumerate -/
theorem z_CR1w {m : Int} (hn : 0 ≤ m ∧ m ≤ 40000) (Pv : Addr → Nat → Hp → Prop) (h0 : ∀ D, H D = none → Pv D 0 (upd H D (.lst []))) (hw : ∀ x, wipe ((wipe σ vs).set j (some x)) vs = wipe σ vs)
    (hs : ∀ D (i : Nat) H1, H D = none → i < m.toNat → Pv D i H1 → te ((wipe σ vs).set j (some (.int (i : Int)))) H1 fun y H2 => ∃ acc, H2 D = some (.lst acc) ∧ acc.length < sizeLine ∧ Pv D (i + 1) (upd H2 D (.lst (acc ++ [y]))))
    (q : ∀ D H2, H D = none → Pv D m.toNat H2 → Q (.ref D) H2) : CR1 (gName j) tYes te vs σ [.int m] H Q :=
  ⟨m, rfl, by omega, by omega, fun D hD => lc_it walk_range (Pv D) (h0 D hD) (fun _ _ _ _ => trivial) (fun i x H1 H2 hi p y => by
    obtain ⟨rfl, rfl⟩ := y
    refine ⟨hw _, ?_⟩
    show te ((wipe σ vs).set j (some (.int (0 + (i : Int))))) H2 _
    rw [Int.zero_add]
    exact hs D i H2 hD hi p) (fun H' p => q D H' hD p)⟩
theorem z_CLw (hx : SqL K H a xs) (Pv : Addr → Nat → Hp → Prop) (h0 : ∀ D, H D = none → Pv D 0 (upd H D (.lst []))) (hG : ∀ D i H1, H D = none → Pv D i H1 → SqL K H1 a xs) (hw : ∀ x, wipe ((wipe σ vs).set j (some x)) vs = wipe σ vs)
    (hs : ∀ D i x H1, H D = none → i < xs.length → xs[i]? = some x → Pv D i H1 → te ((wipe σ vs).set j (some x)) H1 fun y H2 => ∃ acc, H2 D = some (.lst acc) ∧ acc.length < sizeLine ∧ Pv D (i + 1) (upd H2 D (.lst (acc ++ [y]))))
    (q : ∀ D H2, H D = none → Pv D xs.length H2 → Q (.ref D) H2) : CL K (gName j) tYes te vs σ (.ref a) H Q :=
  ⟨a, rfl, ⟨xs, hx⟩, fun D hD => lc_it walk_list (Pv D) (h0 D hD) (fun i H1 _ p => hG D i H1 hD p) (fun i x H1 H2 hi p y => by
    obtain ⟨rfl, e⟩ := y
    exact ⟨hw _, hs D i x H2 hD hi e p⟩) (fun H' p => q D H' hD p)⟩
theorem z_CEw (hx : SqL K H a xs) (Pv : Addr → Nat → Hp → Prop) (h0 : ∀ D, H D = none → Pv D 0 (upd H D (.lst []))) (hG : ∀ D i H1, H D = none → Pv D i H1 → SqL K H1 a xs) (hw : ∀ x y, wipe (((wipe σ vs).set m (some x)).set j (some y)) vs = wipe σ vs)
    (hs : ∀ D i x H1 H2, H D = none → i < xs.length → xs[i]? = some x → Pv D i H1 → Ex H1 H2 → te (((wipe σ vs).set m (some (.int (i : Nat)))).set j (some x)) H2 fun y H3 => ∃ acc, H3 D = some (.lst acc) ∧ acc.length < sizeLine ∧ Pv D (i + 1) (upd H3 D (.lst (acc ++ [y]))))
    (q : ∀ D H2, H D = none → Pv D xs.length H2 → Q (.ref D) H2) : CE K (gTup K 2 (gCons (gName m) (gCons (gName j) gNil))) tYes te vs σ [.ref a] H Q :=
  ⟨a, xs, rfl, hx, fun D hD => lc_it walk_enum (Pv D) (h0 D hD) (fun i H1 _ p => hG D i H1 hD p) (fun i x H1 H2 hi p y => by
    obtain ⟨T, u, x', rfl, e1, rfl, e3, e4⟩ := y
    cases e3
    refine z_gtup2 (st_of upd_same) ⟨hw _ _, ?_⟩
    exact hs D i x' H1 _ hD hi e4 p (Ex.new e1)) (fun H' p => q D H' hD p)⟩
end
/-! ### dicts with a few written keys -/
section
variable {K : PySem.W.Frag} {σ : L2.St} {H : Hp} {Q : VK} {a : Addr} {kvs : List (Key × V)} {x : Str} {v y : V}
theorem z_dgetK (hd : H a = some (.dK kvs)) (e : valV kvs (Sum.inr x) = some v) (q : Q v H) : ∃ a' v', V.ref a = .ref a' ∧ DGet H a' (.str x) (some v') ∧ Q v' H := by
  refine ⟨a, v, rfl, ?_, q⟩
  rw [← e]
  exact DGet.k (k := Sum.inr x) hd
theorem dgK (hd : H a = some (.dK kvs)) (e : valV kvs (Sum.inr x) = some v) : DGet H a (.str x) (some v) := by
  rw [← e]
  exact DGet.k (k := Sum.inr x) hd
theorem dgI {i : Int} (hd : H a = some (.dK kvs)) (e : valV kvs (Sum.inl i) = some v) : DGet H a (.int i) (some v) := by
  rw [← e]
  exact DGet.k (k := Sum.inl i) hd
theorem z_dgetI {i : Int} (hd : H a = some (.dK kvs)) (e : valV kvs (Sum.inl i) = some v) (q : Q v H) : ∃ a' v', V.ref a = .ref a' ∧ DGet H a' (.int i) (some v') ∧ Q v' H := by
  refine ⟨a, v, rfl, ?_, q⟩
  rw [← e]
  exact DGet.k (k := Sum.inl i) hd
end
theorem valV_str {kvs : List (Key × V)} {x : Str} {v : V} (h : kvs.find? (fun kv => decide (kv.1 = Sum.inr x)) = some (Sum.inr x, v)) : valV kvs (Sum.inr x) = some v := by
  unfold valV
  rw [h] <;> rfl
end Z

set_option Elab.async false
set_option linter.all false
set_option maxRecDepth 100000
set_option maxHeartbeats 4000000
/-! Zw: enumerate of a tuple; zip of a list or a tuple beside another one. b tells a tuple. -/
namespace ZW
open PySem PySem.Spec PyProof.Rows L2
open PySem.AutoSeq1 (wpAny_loadPart')
def SIt : Bool → Heap → Addr → Addr → Nat → Prop
  | false, h, it, l, i => h.IsListIter it l i
  | true, h, it, l, i => h.IsTupleIter it l i
def SOf : Bool → Heap → Addr → Array Value → Prop
  | false, h, l, xs => h.IsList l xs
  | true, h, l, xs => h.IsTuple l xs
theorem SIt.keep {b : Bool} {h h' : Heap} {it l : Addr} {i : Nat} (k : ∀ o, h.get? it = some o → h'.get? it = some o) (x : SIt b h it l i) : SIt b h' it l i := by
  cases b with
  | false =>
    obtain ⟨o, g, r⟩ := (x : h.IsListIter it l i)
    exact ⟨o, k o g, r⟩
  | true =>
    obtain ⟨o, g, r⟩ := (x : h.IsTupleIter it l i)
    exact ⟨o, k o g, r⟩
theorem SOf.keep {b : Bool} {h h' : Heap} {l : Addr} {xs : Array Value} (k : ∀ o, h.get? l = some o → h'.get? l = some o) (x : SOf b h l xs) : SOf b h' l xs := by
  cases b with
  | false =>
    obtain ⟨o, g, r⟩ := (x : h.IsList l xs)
    exact ⟨o, k o g, r⟩
  | true =>
    obtain ⟨o, g, r⟩ := (x : h.IsTuple l xs)
    exact ⟨o, k o g, r⟩
theorem SIt.obj {b : Bool} {h : Heap} {it l : Addr} {i : Nat} (x : SIt b h it l i) : ∃ o, h.get? it = some o ∧ ∀ v, o.data ≠ .cell v := by
  cases b with
  | false =>
    obtain ⟨o, g, _, d⟩ := (x : h.IsListIter it l i)
    exact ⟨o, g, fun v z => by rw [d] at z; cases z⟩
  | true =>
    obtain ⟨o, g, _, d⟩ := (x : h.IsTupleIter it l i)
    exact ⟨o, g, fun v z => by rw [d] at z; cases z⟩
theorem SIt.lt {b : Bool} {h : Heap} {it l : Addr} {i : Nat} (x : SIt b h it l i) : it < h.objs.size := by
  obtain ⟨o, g, _⟩ := x.obj
  exact Heap.lt_size g
theorem SIt.but {b : Bool} {h h' : Heap} {it l c : Addr} {i : Nat} (k : Heap.SameBut c h h') (n : it ≠ c) (x : SIt b h it l i) : SIt b h' it l i := x.keep fun o g => (k.2 it n).trans g
theorem SOf.but {b : Bool} {h h' : Heap} {l c : Addr} {xs : Array Value} (k : Heap.SameBut c h h') (n : l ≠ c) (x : SOf b h l xs) : SOf b h' l xs := x.keep fun o g => (k.2 l n).trans g
section
variable {prog : Program} {w : World} {A : Around} {E : Value → Shared → Prop} {s : Shared}
theorem s_item {b : Bool} {it l : Addr} {i : Nat} {xs : Array Value} {x : Value} {Q : Value → Shared → Prop} (si : SIt b s.heap it l i) (so : SOf b s.heap l xs) (ex : xs[i]? = some x)
    (q : ∀ h', SIt b h' it l (i + 1) → Heap.SameBut it s.heap h' → Q x { s with heap := h' }) : wpAny (model prog w) A (Builtin.SmallTypes.nextOf (.ref it)) Q E s := by
  cases b with
  | false => exact wpAny_nextOf_list_item si so ex q
  | true => exact RZ.nextOf_tuple_item si so ex q
theorem s_end {b : Bool} {it l : Addr} {i : Nat} {xs : Array Value} {Q : Value → Shared → Prop} (hh : A.handled = none) (si : SIt b s.heap it l i) (so : SOf b s.heap l xs) (ex : xs[i]? = none)
    (q : ∀ h' e, Heap.ExtBut it s.heap h' → (∃ o, h'.get? e = some o ∧ o.cls = .type "StopIteration") → E (.ref e) { s with heap := h' }) : wpAny (model prog w) A (Builtin.SmallTypes.nextOf (.ref it)) Q E s := by
  cases b with
  | false => exact wpAny_nextOf_list_end hh si so ex q
  | true => exact RZ.nextOf_tuple_end hh si so ex q
/-- a turn of enumerate, whatever stands within -/
theorem en_item {b : Bool} {e it l : Addr} {i : Nat} {xs : Array Value} {x was : Value} {Q : Option Value → Shared → Prop} (ee : IsEnum s.heap e it i was) (si : SIt b s.heap it l i) (so : SOf b s.heap l xs) (ex : xs[i]? = some x) (ne : e ≠ it)
    (q : ∀ h', IsEnumOut h' e it ((i : Int) + 1) x s.heap.objs.size → SIt b h' it l (i + 1) → h'.get? s.heap.objs.size = some (seqObj "tuple" #[.int i s.toks, x] 0) → (∀ c o, c ≠ e → c ≠ it → s.heap.get? c = some o → h'.get? c = some o) → Q (some (.ref s.heap.objs.size)) { s with heap := h', toks := s.toks + 1 }) :
    wpAny (model prog w) A (pyNext (.ref e)) Q E s := by
  have ty : s.TypeIs (.ref e) "enumerate" := ⟨_, ee, rfl⟩
  have el := Heap.lt_size ee
  unfold pyNext
  refine wpAny_bind (wpAny_attempt (wpAny_callSpecial?_slot (name := Str.ofString "__next__") ty F.slot_enumerate_next (wpAny_call_entry F.slot_enumerate_next ty F.entry_enumerate_next ?_ (F.args_enumerate_next_1 _))))
  obtain ⟨h, g, d, tk, os⟩ := s
  show wpAny _ _ (field (.ref e) 2 >>= _) _ _ _
  refine wpAny_bind (wpAny_field ee rfl (x := .ref it) rfl (wpAny_bind (s_item si so ex fun h1 si1 c1 => ?_)))
  have e1 : IsEnum h1 e it i was := (c1.2 e ne).trans ee
  show wpAny _ _ (field (.ref e) 3 >>= _) _ _ _
  refine wpAny_bind (wpAny_field e1 rfl (x := rawInt i) rfl ?_)
  show wpAny _ _ (field (.ref e) 4 >>= _) _ _ _
  refine wpAny_bind (wpAny_field e1 rfl (x := .none) rfl ?_)
  show wpAny _ _ (mkInt i >>= _) _ _ _
  refine wpAny_bind (wpAny_mkInt ?_)
  show wpAny _ _ (setField (.ref e) 3 (rawInt ((i : Int) + 1)) >>= _) _ _ _
  refine wpAny_bind (wpAny_setField_rec e1 (by simp) fun h2 e2 c2 => ?_)
  have e2' : IsEnum h2 e it ((i : Int) + 1) was := e2
  show wpAny _ _ (setField (.ref e) 4 .none >>= _) _ _ _
  refine wpAny_bind (wpAny_setField_rec e2' (by simp) fun h3 e3 c3 => ?_)
  have e3' : IsEnum h3 e it ((i : Int) + 1) was := e3
  have sz3 : h3.objs.size = h.objs.size := c3.1.trans (c2.1.trans c1.1)
  show wpAny _ _ (newTuple [.int i tk, x] >>= _) _ _ _
  refine wpAny_bind (wpAny_newTuple ?_)
  have e4 : IsEnum (h3.push (seqObj "tuple" #[.int i tk, x] 0)) e it ((i : Int) + 1) was := Heap.get?_push_of_some _ e3'
  have t4 : (h3.push (seqObj "tuple" #[.int i tk, x] 0)).get? h.objs.size = some (seqObj "tuple" #[.int i tk, x] 0) := by
    rw [← sz3]
    exact Heap.get?_push_size _ rfl
  have o4 : ∀ c o, c ≠ e → c ≠ it → h.get? c = some o → (h3.push (seqObj "tuple" #[.int i tk, x] 0)).get? c = some o := fun c o n1 n2 gc => Heap.get?_push_of_some _ ((c3.2 c n1).trans ((c2.2 c n1).trans ((c1.2 c n2).trans gc)))
  have si4 : SIt b (h3.push (seqObj "tuple" #[.int i tk, x] 0)) it l (i + 1) := ((si1.but c2 ne.symm).but c3 ne.symm).keep fun o gc => Heap.get?_push_of_some _ gc
  show wpAny _ _ (Builtin.SmallTypes.ownedTupleIsFree (.ref e) >>= _) _ _ { heap := h3.push (seqObj "tuple" #[.int i tk, x] 0), gens := g, drawn := d, toks := tk + 1, os := os }
  rw [sz3]
  generalize h3.push (seqObj "tuple" #[.int i tk, x] 0) = h4 at e4 t4 o4 si4 ⊢
  clear e3 e3' c3 e2 e2' c2 e1 c1 si1 sz3 h3 h2 h1
  refine wpAny_bind ?_
  unfold Builtin.SmallTypes.ownedTupleIsFree
  refine wpAny_bind (wpAny_field e4 rfl (x := .none) rfl (wpAny_pure ?_))
  simp only [if_true]
  refine wpAny_bind (wpAny_rule (wpAny_bind (wpAny_field e4 rfl (x := was) rfl (wpAny_bind (wpAny_setField_rec e4 (by simp) fun h5 e5 c5 => ?_)))))
  have e5' : IsEnum h5 e it ((i : Int) + 1) x := e5
  show wpAny _ _ (Builtin.SmallTypes.ownedTupleHandOut (.ref e) (.ref h.objs.size) >>= _) _ _ _
  refine wpAny_bind ?_
  unfold Builtin.SmallTypes.ownedTupleHandOut
  refine wpAny_bind (wpAny_setField_rec e5' (by simp) fun h6 e6 c6 => ?_)
  have e6' : IsEnumOut h6 e it ((i : Int) + 1) x h.objs.size := e6
  refine wpAny_setField_rec e6' (by simp) fun h7 e7 c7 => wpAny_bind (wpAny_letGo (wpAny_pure ⟨_, rfl, wpAny_pure ?_⟩))
  have up : ∀ c, c ≠ e → h7.get? c = h4.get? c := fun c n => (c7.2 c n).trans ((c6.2 c n).trans (c5.2 c n))
  exact q h7 e7 (si4.keep fun o gc => (up it ne.symm).trans gc) ((up _ (Nat.ne_of_gt el)).trans t4) fun c o n1 n2 gc => (up c n1).trans (o4 c o n1 n2 gc)
theorem en_end {b : Bool} {e it l : Addr} {i : Nat} {xs : Array Value} {was : Value} {Q : Option Value → Shared → Prop} (hh : A.handled = none) (ee : IsEnum s.heap e it i was) (si : SIt b s.heap it l i) (so : SOf b s.heap l xs) (ex : xs[i]? = none)
    (q : ∀ h', Heap.ExtBut it s.heap h' → Q none { s with heap := h' }) : wpAny (model prog w) A (pyNext (.ref e)) Q E s := by
  have ty : s.TypeIs (.ref e) "enumerate" := ⟨_, ee, rfl⟩
  unfold pyNext
  refine wpAny_bind (wpAny_attempt (wpAny_callSpecial?_slot (name := Str.ofString "__next__") ty F.slot_enumerate_next (wpAny_call_entry F.slot_enumerate_next ty F.entry_enumerate_next ?_ (F.args_enumerate_next_1 _))))
  show wpAny _ _ (field (.ref e) 2 >>= _) _ _ _
  refine wpAny_bind (wpAny_field ee rfl (x := .ref it) rfl (wpAny_bind (s_end hh si so ex fun h1 z k1 ⟨oz, gz, cz⟩ => ?_)))
  exact wpAny_bind (wpAny_isInstance (T := "StopIteration") (b := true) ⟨oz, gz, cz⟩ isSubtype_stop (wpAny_pure (q _ k1)))
end
theorem new_enT (l : Addr) (xs : Array Value) (n : Nat) (dc : Option Addr) (sl : Array (Option Value)) :
    Meets (Builtin.«enumerate.__new__» ⟨[.type "enumerate", .ref l], []⟩) (fun _ R s => s.heap.get? l = some { cls := .type "tuple", dict := dc, data := .seq xs n, slots := sl } ∧
      R (.ok (.ret (.ref (s.heap.push { cls := .type "tuple_iterator", data := .fields #[.ref l, .int 0 0] }).objs.size)))
        { s with heap := (s.heap.push { cls := .type "tuple_iterator", data := .fields #[.ref l, .int 0 0] }).push { cls := .type "enumerate", data := .fields #[.none, .bool false, .ref s.heap.objs.size, rawInt 0, .none, .none] } }) :=
  .of_wp fun prog w A R s ⟨gl, hR⟩ => by
    obtain ⟨h, g, d, tk, os⟩ := s
    have sb := sub_enumerate
    have tl : Heap.IsTuple (Shared.heap ⟨h, g, d, tk, os⟩) l xs := ⟨_, gl, rfl, n, rfl⟩
    wp_walk using wpAny_loadPart' gl
    refine wpAny_stack_any fun st => wpAny_pure ?_
    split
    · rename_i c _ _ _ _ _
      cases (c == Value.type "enumerate") <;> (wp_walk using wpAny_loadPart' gl, wpAny_pyIter_tuple tl; exact ⟨_, rfl, hR⟩)
    · wp_walk using wpAny_loadPart' gl, wpAny_pyIter_tuple tl
      exact ⟨_, rfl, hR⟩
section
variable {prog : Program} {w : World} {A : Around} {E : Value → Shared → Prop} {s : Shared}
theorem call_en {b : Bool} {l : Addr} {xs : Array Value} {Q : Value → Shared → Prop} (so : SOf b s.heap l xs)
    (q : ∀ h', IsEnum h' (s.heap.objs.size + 1) s.heap.objs.size 0 .none → SIt b h' s.heap.objs.size l 0 → (∀ c o, s.heap.get? c = some o → h'.get? c = some o) → Q (.ref (s.heap.objs.size + 1)) { s with heap := h' }) :
    wpAny (model prog w) A (call (.type "enumerate") [.ref l]) Q E s := by
  cases b with
  | false => exact call_enumerate_list so fun h' a b _ c => q h' a b c
  | true =>
    obtain ⟨⟨c, dc, dt, sl⟩, gl, hc, n, hd⟩ := (so : s.heap.IsTuple l xs)
    obtain rfl : c = .type "tuple" := hc
    obtain rfl : dt = .seq xs n := hd
    refine callType_new F.called_enumerate (by decide) (F.typeCall_enumerate_1 _) (F.newCall_enumerate_1 _) (fun obj => F.args_object_init_2 obj _) F.entry_enumerate_new (new_enT l xs n dc sl) ⟨gl, ?_⟩
    have z1 : (s.heap.push { cls := .type "tuple_iterator", data := .fields #[.ref l, .int 0 0] }).objs.size = s.heap.objs.size + 1 := Heap.size_push ..
    show _ ∧ _
    rw [z1]
    have ee : IsEnum ((s.heap.push { cls := .type "tuple_iterator", data := .fields #[.ref l, .int 0 0] }).push { cls := .type "enumerate", data := .fields #[.none, .bool false, .ref s.heap.objs.size, rawInt 0, .none, .none] }) (s.heap.objs.size + 1) s.heap.objs.size 0 .none := by
      have z := Heap.get?_push_size (s.heap.push { cls := .type "tuple_iterator", data := .fields #[.ref l, .int 0 0] }) (o := { cls := .type "enumerate", data := .fields #[.none, .bool false, .ref s.heap.objs.size, rawInt 0, .none, .none] }) rfl
      rw [z1] at z
      exact z
    exact ⟨⟨_, ee, rfl⟩, q _ ee ⟨_, Heap.get?_push_of_some _ (Heap.get?_push_size _ rfl), rfl, rfl⟩ fun c o gc => Heap.get?_push_of_some _ (Heap.get?_push_of_some _ gc)⟩
end
/-- a list or a tuple -/
def SqS (b : Bool) (K : PySem.W.Frag) (H : Hp) (a : Addr) (xs : List V) : Prop := match b with
  | false => SqL K H a xs
  | true => SqT K H a xs
section
variable {X : Cx} {pins : List (Addr × Obj)} {σ : L2.St} {H : Hp} {s : Shared} {a : Addr} {xs ys : List V} {b : Bool}
theorem sOf (I : Inv X pins σ H s) (h : SqS b X.K H a xs) : ∃ its : List Value, Vals xs its ∧ SOf b s.heap a its.toArray ∧ xs.length ≤ sizeLine := by
  cases b with
  | false =>
    obtain ⟨its, rv, p, z⟩ := I.list h
    exact ⟨its, rv, p.isList, z⟩
  | true =>
    obtain ⟨its, rv, p, z⟩ := I.tuple h
    exact ⟨its, rv, p, z⟩
theorem sInj (I : Inv X pins σ H s) (h : SqS b X.K H a xs) (k : SqS b X.K H a ys) : xs = ys := by
  cases b with
  | false => exact I.list_inj h k
  | true => exact I.tuple_inj h k
end
def IteS (b : Bool) (K : PySem.W.Frag) (a : Addr) : It :=
  ⟨fun i H => ∃ (xs : List V) (x : V), SqS b K H a xs ∧ xs[i]? = some x, fun i H v H' => ∃ T x, v = .ref T ∧ H T = none ∧ H' = upd H T (.tup [.int (i : Nat), x]) ∧ ∀ xs, SqS b K H a xs → xs[i]? = some x, fun i H => ∃ xs : List V, SqS b K H a xs ∧ xs.length ≤ i⟩
theorem turn_enS {P : Program} {w : World} {K : PySem.W.Frag} {elts : List Expr} {kk : Nat} {tpos : Pos} (b : Bool) (a e it : Addr) :
    Turn P w K (.Tuple elts kk tpos) (IteS b K a) [e, it] e (fun i h => (∃ was, IsEnum h e it ((i : Nat) : Int) was) ∧ SIt b h it a i ∧ e ≠ it) where
  mem := List.mem_cons_self
  obj := fun i h st c hc => by
    obtain ⟨⟨was, ee⟩, si, _⟩ := st
    rcases List.mem_cons.mp hc with z | z
    · rw [z]
      exact ⟨_, ee, fun v q => nomatch q⟩
    · rw [List.mem_singleton.mp z]
      exact si.obj
  keep := fun i h h' st k => by
    obtain ⟨⟨was, ee⟩, si, ne⟩ := st
    exact ⟨⟨was, k e (by simp) _ ee⟩, si.keep fun o g => k it (by simp) o g, ne⟩
  item := by
    intro X hP hw hK _ i pins s σ H E I fp st go
    subst hP hw hK
    obtain ⟨⟨was, ee⟩, si, ne⟩ := st
    obtain ⟨xs, x, hq, hx⟩ := go
    obtain ⟨its, rv, so, _⟩ := sOf I hq
    obtain ⟨u, hu, ru⟩ := rv.get hx
    have le := Heap.lt_size ee
    have li := si.lt
    refine en_item ee si so (x := u) (by simpa using hu) ne fun h1 eo si1 gt kp => ⟨_, rfl, wpAny_letOwnedTupleGo_enum (s := { s with heap := h1, toks := s.toks + 1 }) eo fun h2 e2 c2 => ?_⟩
    have g2 : h2.get? s.heap.objs.size = some (seqObj "tuple" #[.int i s.toks, u] 0) := (c2.2 _ (Nat.ne_of_gt le)).trans gt
    have new : ObjOk X.prog X.w (upd H s.heap.objs.size (.tup [.int (i : Nat), x])) h2 s.heap.objs.size (.tup [.int (i : Nat), x]) :=
      ⟨by show 2 ≤ sizeLine; decide, [.int i s.toks, u], .cons ⟨_, rfl⟩ (.cons ru .nil), ⟨_, g2, rfl, _, rfl⟩⟩
    have I2 : Inv X pins σ (upd H s.heap.objs.size (.tup [.int (i : Nat), x])) { s with heap := h2, toks := s.toks + 1 } :=
      I.turnedNew (ch := [e, it]) (fun c o hc g => (c2.2 c fun z => hc (by simp [z])).trans (kp c o (fun z => hc (by simp [z])) (fun z => hc (by simp [z])) g)) fp (Nat.le_refl _) new
    refine ⟨.ref s.heap.objs.size, _, I2, rfl, ⟨_, x, rfl, I.hok.fresh (Nat.le_refl _), rfl, fun zs hz => by rw [sInj I hz hq]; exact hx⟩, ⟨⟨u, ?_⟩, si1.but c2 ne.symm, ne⟩, fun c hc => ?_⟩
    · rw [show ((i + 1 : Nat) : Int) = (i : Int) + 1 by omega]
      exact e2
    · rw [upd_ne (by rcases List.mem_cons.mp hc with z | z <;> first | (rw [z]; exact Nat.ne_of_lt le) | (rw [List.mem_singleton.mp z]; exact Nat.ne_of_lt li))]
      exact (fp c hc).1
  done := by
    intro X hP hw hK hcalm i pins s σ H E I fp st stop
    subst hP hw hK
    obtain ⟨⟨was, ee⟩, si, ne⟩ := st
    obtain ⟨xs, hq, hx⟩ := stop
    obtain ⟨its, rv, so, _⟩ := sOf I hq
    obtain ⟨f0, f1, f2, f3, f4, f5⟩ := fp it (by simp)
    have hl := rv.length
    exact en_end (I.ok.hd hcalm) ee si so (by simp; omega) fun h1 k1 => ⟨rfl, I.turned (t' := s.toks) (fun c o hc g => k1 c o hc g) f0 f1 f3 f4 f5⟩
  self := fun A i s Q E st q => by
    obtain ⟨⟨_, ee⟩, _⟩ := st
    exact wpAny_pyIter_enum ee q
def iEnS (K : PySem.W.Frag) (ta : TA) : TI := fun σ H R => ta σ H fun vs H1 => ∃ b a xs, vs = [.ref a] ∧ SqS b K H1 a xs ∧ R (IteS b K a) H1
theorem pi_enS {X : Cx} {e : Expr} {ta : TA} {p pos tpos : Pos} {elts : List Expr} {kk : Nat} (hg : Gl X "enumerate") (hm : X.mg "enumerate" = none) (ha : PA X [e] ta) (hs : starEach [e] X.env = [(false, eval e X.env)] := by rfl) :
    PI X (.Tuple elts kk tpos) (.Call (.Name "enumerate" p) [e] [] pos) (iEnS X.K ta) := by
  refine ⟨fun pins s σ H R I h => Call_ (ld_blt I hg hm boot_enumerate (PyProof.Rows.callWith_type1 (thn (ha.run pos pins s σ H _ I h) fun us s1 ⟨vs, H1, I1, r1, q1⟩ => ?_) hs rfl))⟩
  obtain ⟨b, a, xs, rfl, hq, q⟩ := q1
  obtain ⟨u, rfl, ru⟩ := vals1 r1
  cases ru
  obtain ⟨its, rv, so, _⟩ := sOf I1 hq
  refine call_en so fun h1 ee si kp => wpAny_pyIter_enum ee ?_
  have I2 : Inv X pins σ H1 { s1 with heap := h1 } := I1.kept (t' := s1.toks) kp
  refine ⟨s1.heap.objs.size + 1, [s1.heap.objs.size + 1, s1.heap.objs.size], _, _, H1, rfl, I2, turn_enS b a (s1.heap.objs.size + 1) s1.heap.objs.size, ⟨⟨.none, ee⟩, si, Nat.succ_ne_self _⟩, fun c hc => ?_, q⟩
  have le : s1.heap.objs.size ≤ c := by
    rcases List.mem_cons.mp hc with z | z
    · rw [z]
      exact Nat.le_succ _
    · rw [List.mem_singleton.mp z]
      exact Nat.le_refl _
  exact I1.fpOk le (I1.hok.fresh le)
/-! ### zip -/
section
variable {prog : Program} {w : World} {A : Around} {E : Value → Shared → Prop} {s : Shared} {b c : Bool} {z TI TO i1 i2 l1 l2 : Addr} {k1 k2 : Nat} {xs ys : Array Value} {x y u v : Value}
/-- what stays over a turn -/
def Kept (z TO i1 i2 : Addr) (h h' : Heap) : Prop := ∀ d o, d ≠ z → d ≠ TO → d ≠ i1 → d ≠ i2 → h.get? d = some o → h'.get? d = some o
theorem zw_item {Q : Option Value → Shared → Prop} (D : ZipApart z TI TO i1 i2 l1 l2) (zz : IsZip s.heap z TI TO .none) (ti : IsPair s.heap TI (.ref i1) (.ref i2)) (to : IsPair s.heap TO u v) (s1 : SIt b s.heap i1 l1 k1) (s2 : SIt c s.heap i2 l2 k2)
    (o1 : SOf b s.heap l1 xs) (o2 : SOf c s.heap l2 ys) (ex : xs[k1]? = some x) (ey : ys[k2]? = some y)
    (q : ∀ h', IsZip h' z TI TO (rawInt s.heap.objs.size) → IsPair h' TO x y → SIt b h' i1 l1 (k1 + 1) → SIt c h' i2 l2 (k2 + 1) → IsPair h' s.heap.objs.size x y → Kept z TO i1 i2 s.heap h' → Q (some (.ref s.heap.objs.size)) { s with heap := h' }) :
    wpAny (model prog w) A (pyNext (.ref z)) Q E s := by
  have ty : s.TypeIs (.ref z) "zip" := ⟨_, zz, rfl⟩
  unfold pyNext
  refine wpAny_bind (wpAny_attempt (wpAny_callSpecial?_slot (name := Str.ofString "__next__") ty F.slot_zip_next (wpAny_call_entry F.slot_zip_next ty F.entry_zip_next ?_ (F.args_zip_next_1 _))))
  show wpAny _ _ (field (.ref z) 2 >>= _) _ _ _
  refine wpAny_bind (wpAny_field zz rfl (x := .bool false) rfl ?_)
  show wpAny _ _ (field (.ref z) 3 >>= _) _ _ _
  refine wpAny_bind (wpAny_field zz rfl (x := .ref TI) rfl (wpAny_bind (wpAny_seqItems ti rfl ?_)))
  show wpAny _ _ (Builtin.SmallTypes.ownedTupleIsFree (.ref z) >>= _) _ _ _
  refine wpAny_bind ?_
  unfold Builtin.SmallTypes.ownedTupleIsFree
  refine wpAny_bind (wpAny_field zz rfl (x := .none) rfl (wpAny_pure ?_))
  simp only [if_true]
  refine wpAny_bind (wpAny_rule (wpAny_bind (wpAny_field zz rfl (x := .ref TO) rfl (wpAny_bind (wpAny_setField_rec zz (by simp) fun h1 z1 c1 => ?_)))))
  have z1' : IsZip h1 z TI TO .ellipsis := z1
  refine wpAny_bind ?_
  simp only [List.zipIdx_cons, List.zipIdx_nil, List.forIn_cons, List.forIn_nil]
  refine wpAny_bind (wpAny_bind (wpAny_onRaise ?_))
  show wpAny _ _ (Builtin.SmallTypes.nextOf (.ref i1) >>= _) _ _ _
  refine wpAny_bind (s_item (s1.but c1 D.i1z) (o1.but c1 D.l1z) ex fun h2 t2 c2 => wpAny_pure ?_)
  have to2 : IsPair h2 TO u v := (c2.2 _ D.TOi1).trans ((c1.2 _ D.TOz).trans to)
  refine wpAny_bind (wpAny_seqItems to2 rfl (wpAny_bind (wpAny_updateSeq_pair to2 fun h3 to3 c3 => wpAny_bind (wpAny_letGo (wpAny_pure ?_)))))
  have to3' : IsPair h3 TO x v := to3
  refine wpAny_bind (wpAny_bind (wpAny_onRaise ?_))
  show wpAny _ _ (Builtin.SmallTypes.nextOf (.ref i2) >>= _) _ _ _
  refine wpAny_bind (s_item (((s2.but c1 D.i2z).but c2 D.i12.symm).but c3 D.TOi2.symm) (((o2.but c1 D.l2z).but c2 D.l2i1).but c3 D.l2TO) ey fun h4 t4 c4 => wpAny_pure ?_)
  have to4 : IsPair h4 TO x v := (c4.2 _ D.TOi2).trans to3'
  refine wpAny_bind (wpAny_seqItems to4 rfl (wpAny_bind (wpAny_updateSeq_pair to4 fun h5 to5 c5 => wpAny_bind (wpAny_letGo (wpAny_pure (wpAny_pure ?_))))))
  have to5' : IsPair h5 TO x y := to5
  have sz5 : h5.objs.size = s.heap.objs.size := c5.1.trans (c4.1.trans (c3.1.trans (c2.1.trans c1.1)))
  have z5 : IsZip h5 z TI TO .ellipsis := (c5.2 _ D.TOz.symm).trans ((c4.2 _ D.i2z.symm).trans ((c3.2 _ D.TOz.symm).trans ((c2.2 _ D.i1z.symm).trans z1')))
  have zl : z < h5.objs.size := Heap.lt_size z5
  have s15 : SIt b h5 i1 l1 (k1 + 1) := ((t2.but c3 D.TOi1.symm).but c4 D.i12).but c5 D.TOi1.symm
  have s25 : SIt c h5 i2 l2 (k2 + 1) := t4.but c5 D.TOi2.symm
  refine wpAny_bind (wpAny_seqItems to5' rfl (wpAny_bind (wpAny_newTuple ?_)))
  show wpAny _ _ (Builtin.SmallTypes.ownedTupleHandOut (.ref z) (.ref h5.objs.size) >>= _) _ _ _
  refine wpAny_bind ?_
  unfold Builtin.SmallTypes.ownedTupleHandOut
  have z6 : IsZip (h5.push (seqObj "tuple" #[x, y] 0)) z TI TO .ellipsis := Heap.get?_push_of_some _ z5
  refine wpAny_bind (wpAny_setField_rec z6 (by simp) fun h7 z7 c7 => ?_)
  have z7' : IsZip h7 z TI TO (rawInt h5.objs.size) := z7
  refine wpAny_setField_rec z7' (by simp) fun h8 z8 c8 => ?_
  have z8' : IsZip h8 z TI TO (rawInt h5.objs.size) := z8
  have up : ∀ d o, d ≠ z → h5.get? d = some o → h8.get? d = some o := fun d o n gd => (c8.2 d n).trans ((c7.2 d n).trans (Heap.get?_push_of_some _ gd))
  have tn : IsPair h8 h5.objs.size x y := (c8.2 _ (Nat.ne_of_gt zl)).trans ((c7.2 _ (Nat.ne_of_gt zl)).trans (Heap.get?_push_size _ rfl))
  refine wpAny_pure ⟨_, rfl, wpAny_pure ?_⟩
  show Q (some (.ref h5.objs.size)) _
  rw [sz5] at z8' tn ⊢
  exact q h8 z8' (up _ _ D.TOz to5') (s15.keep fun o g => up _ o D.i1z g) (s25.keep fun o g => up _ o D.i2z g) tn fun d o n1 n2 n3 n4 g => up d o n1 ((c5.2 d n2).trans ((c4.2 d n4).trans ((c3.2 d n2).trans ((c2.2 d n3).trans ((c1.2 d n1).trans g)))))
theorem zw_end {Q : Option Value → Shared → Prop} (hh : A.handled = none) (D : ZipApart z TI TO i1 i2 l1 l2) (zz : IsZip s.heap z TI TO .none) (ti : IsPair s.heap TI (.ref i1) (.ref i2)) (to : IsPair s.heap TO u v) (s1 : SIt b s.heap i1 l1 k1) (s2 : SIt c s.heap i2 l2 k2)
    (o1 : SOf b s.heap l1 xs) (o2 : SOf c s.heap l2 ys) (ee : xs[k1]? = none ∨ ys[k2]? = none) (q : ∀ h', Kept z TO i1 i2 s.heap h' → Q none { s with heap := h' }) : wpAny (model prog w) A (pyNext (.ref z)) Q E s := by
  have ty : s.TypeIs (.ref z) "zip" := ⟨_, zz, rfl⟩
  have stop : ∀ (h' : Heap) (e : Addr), Kept z TO i1 i2 s.heap h' → (∃ o, h'.get? e = some o ∧ o.cls = .type "StopIteration") → wpAny (model prog w) A (isInstance (.ref e) (.type "StopIteration") >>= fun r => if r = true then (pure none : Sem (Option Value)) else throw (.ref e)) Q E { s with heap := h' } := fun h' e kp ⟨o, g, cl⟩ =>
    wpAny_bind (wpAny_isInstance (T := "StopIteration") (b := true) ⟨o, g, cl⟩ isSubtype_stop (wpAny_pure (q _ kp)))
  unfold pyNext
  refine wpAny_bind (wpAny_attempt (wpAny_callSpecial?_slot (name := Str.ofString "__next__") ty F.slot_zip_next (wpAny_call_entry F.slot_zip_next ty F.entry_zip_next ?_ (F.args_zip_next_1 _))))
  show wpAny _ _ (field (.ref z) 2 >>= _) _ _ _
  refine wpAny_bind (wpAny_field zz rfl (x := .bool false) rfl ?_)
  show wpAny _ _ (field (.ref z) 3 >>= _) _ _ _
  refine wpAny_bind (wpAny_field zz rfl (x := .ref TI) rfl (wpAny_bind (wpAny_seqItems ti rfl ?_)))
  show wpAny _ _ (Builtin.SmallTypes.ownedTupleIsFree (.ref z) >>= _) _ _ _
  refine wpAny_bind ?_
  unfold Builtin.SmallTypes.ownedTupleIsFree
  refine wpAny_bind (wpAny_field zz rfl (x := .none) rfl (wpAny_pure ?_))
  simp only [if_true]
  refine wpAny_bind (wpAny_rule (wpAny_bind (wpAny_field zz rfl (x := .ref TO) rfl (wpAny_bind (wpAny_setField_rec zz (by simp) fun h1 z1 c1 => ?_)))))
  have z1' : IsZip h1 z TI TO .ellipsis := z1
  refine wpAny_bind ?_
  simp only [List.zipIdx_cons, List.zipIdx_nil, List.forIn_cons, List.forIn_nil]
  refine wpAny_bind (wpAny_bind (wpAny_onRaise ?_))
  show wpAny _ _ (Builtin.SmallTypes.nextOf (.ref i1) >>= _) _ _ _
  cases ex : xs[k1]? with
  | none =>
    refine wpAny_bind (s_end hh (s1.but c1 D.i1z) (o1.but c1 D.l1z) ex fun h2 e k2' ⟨oe, ge, ce⟩ => ?_)
    have z2 : IsZip h2 z TI TO .ellipsis := k2' _ _ D.i1z.symm z1'
    have ez : e ≠ z := fun r => by
      rw [r, z2] at ge
      cases ge
      simp at ce
    refine wpAny_setField_rec z2 (by simp) fun h3 _ c3 => stop h3 e (fun d o n1 _ n3 _ g => (c3.2 d n1).trans (k2' d o n3 ((c1.2 d n1).trans g))) ⟨oe, (c3.2 e ez).trans ge, ce⟩
  | some x =>
    have ey : ys[k2]? = none := by
      rcases ee with r | r
      · rw [ex] at r
        cases r
      · exact r
    refine wpAny_bind (s_item (s1.but c1 D.i1z) (o1.but c1 D.l1z) ex fun h2 t2 c2 => wpAny_pure ?_)
    have to2 : IsPair h2 TO u v := (c2.2 _ D.TOi1).trans ((c1.2 _ D.TOz).trans to)
    refine wpAny_bind (wpAny_seqItems to2 rfl (wpAny_bind (wpAny_updateSeq_pair to2 fun h3 to3 c3 => wpAny_bind (wpAny_letGo (wpAny_pure ?_)))))
    refine wpAny_bind (wpAny_bind (wpAny_onRaise ?_))
    show wpAny _ _ (Builtin.SmallTypes.nextOf (.ref i2) >>= _) _ _ _
    refine wpAny_bind (s_end hh (((s2.but c1 D.i2z).but c2 D.i12.symm).but c3 D.TOi2.symm) (((o2.but c1 D.l2z).but c2 D.l2i1).but c3 D.l2TO) ey fun h4 e k4 ⟨oe, ge, ce⟩ => ?_)
    have z4 : IsZip h4 z TI TO .ellipsis := k4 _ _ D.i2z.symm ((c3.2 _ D.TOz.symm).trans ((c2.2 _ D.i1z.symm).trans z1'))
    have ez : e ≠ z := fun r => by
      rw [r, z4] at ge
      cases ge
      simp at ce
    refine wpAny_setField_rec z4 (by simp) fun h5 _ c5 => stop h5 e (fun d o n1 n2 n3 n4 g => (c5.2 d n1).trans (k4 d o n4 ((c3.2 d n2).trans ((c2.2 d n3).trans ((c1.2 d n1).trans g))))) ⟨oe, (c5.2 e ez).trans ge, ce⟩
end
/-- an iterator at its beginning -/
def itO (b : Bool) (l : Addr) : Obj := { cls := .type (match b with | false => "list_iterator" | true => "tuple_iterator"), data := .fields #[.ref l, .int 0 0] }
theorem itO_at {b : Bool} {h : Heap} {a l : Addr} (g : h.get? a = some (itO b l)) : SIt b h a l 0 := by
  cases b <;> exact ⟨_, g, rfl, rfl⟩
def zh3 (b c : Bool) (h : Heap) (l m : Addr) : Heap := ((h.push (itO b l)).push (itO c m)).push (seqObj "tuple" #[.ref h.objs.size, .ref (h.objs.size + 1)] 0)
def zh5 (b c : Bool) (h : Heap) (l m : Addr) : Heap := ((zh3 b c h l m).push (seqObj "tuple" #[.none, .none] 0)).push { cls := .type "zip", data := .fields #[.none, .bool false, .bool false, .ref (h.objs.size + 2), .ref (h.objs.size + 3)] }
theorem new_zip (b c : Bool) (l m : Addr) (xs ys : Array Value) :
    Meets (Builtin.«zip.__new__» ⟨[.type "zip", .ref l, .ref m], []⟩) (fun _ R s => SOf b s.heap l xs ∧ SOf c s.heap m ys ∧ R (.ok (.ret (.ref (s.heap.objs.size + 4)))) { s with heap := zh5 b c s.heap l m }) :=
  .of_wp fun prog w A R s ⟨o1, o2, hR⟩ => by
    obtain ⟨h, g, d, tk, os⟩ := s
    have sb := sub_zip
    have p1 : (h.push (itO b l)).objs.size = h.objs.size + 1 := Heap.size_push ..
    have p2 : ((h.push (itO b l)).push (itO c m)).objs.size = h.objs.size + 2 := by rw [Heap.size_push, p1]
    have p3 : (zh3 b c h l m).objs.size = h.objs.size + 3 := (Heap.size_push ..).trans (by rw [p2])
    have p4 : ((zh3 b c h l m).push (seqObj "tuple" #[.none, .none] 0)).objs.size = h.objs.size + 4 := (Heap.size_push ..).trans (by rw [p3])
    have o2' : SOf c (h.push (itO b l)) m ys := o2.keep fun o gm => Heap.get?_push_of_some _ gm
    unfold zh5 at hR
    rw [← p4, ← p3, ← p2] at hR
    unfold zh3 at hR
    rw [← p1] at hR
    cases b <;> cases c
    · have t1 : Heap.IsList (Shared.heap ⟨h, g, d, tk, os⟩) l xs := o1
      have t2 : Heap.IsList (Shared.heap ⟨h.push { cls := .type "list_iterator", data := .fields #[.ref l, .int 0 0] }, g, d, tk, os⟩) m ys := o2'
      wp_walk using wpAny_pyIter_list t1, wpAny_pyIter_list t2
      exact ⟨_, rfl, hR⟩
    · have t1 : Heap.IsList (Shared.heap ⟨h, g, d, tk, os⟩) l xs := o1
      have t2 : Heap.IsTuple (Shared.heap ⟨h.push { cls := .type "list_iterator", data := .fields #[.ref l, .int 0 0] }, g, d, tk, os⟩) m ys := o2'
      wp_walk using wpAny_pyIter_list t1, wpAny_pyIter_tuple t2
      exact ⟨_, rfl, hR⟩
    · have t1 : Heap.IsTuple (Shared.heap ⟨h, g, d, tk, os⟩) l xs := o1
      have t2 : Heap.IsList (Shared.heap ⟨h.push { cls := .type "tuple_iterator", data := .fields #[.ref l, .int 0 0] }, g, d, tk, os⟩) m ys := o2'
      wp_walk using wpAny_pyIter_tuple t1, wpAny_pyIter_list t2
      exact ⟨_, rfl, hR⟩
    · have t1 : Heap.IsTuple (Shared.heap ⟨h, g, d, tk, os⟩) l xs := o1
      have t2 : Heap.IsTuple (Shared.heap ⟨h.push { cls := .type "tuple_iterator", data := .fields #[.ref l, .int 0 0] }, g, d, tk, os⟩) m ys := o2'
      wp_walk using wpAny_pyIter_tuple t1, wpAny_pyIter_tuple t2
      exact ⟨_, rfl, hR⟩
section
variable {prog : Program} {w : World} {A : Around} {E : Value → Shared → Prop} {s : Shared} {b c : Bool} {l m : Addr} {xs ys : Array Value}
theorem call_zw {Q : Value → Shared → Prop} (o1 : SOf b s.heap l xs) (o2 : SOf c s.heap m ys)
    (q : ∀ h', IsZip h' (s.heap.objs.size + 4) (s.heap.objs.size + 2) (s.heap.objs.size + 3) .none → IsPair h' (s.heap.objs.size + 2) (.ref s.heap.objs.size) (.ref (s.heap.objs.size + 1)) → IsPair h' (s.heap.objs.size + 3) .none .none →
      SIt b h' s.heap.objs.size l 0 → SIt c h' (s.heap.objs.size + 1) m 0 → (∀ d o, s.heap.get? d = some o → h'.get? d = some o) → Q (.ref (s.heap.objs.size + 4)) { s with heap := h' }) :
    wpAny (model prog w) A (call (.type "zip") [.ref l, .ref m]) Q E s := by
  refine callType_new F.called_zip (by decide) (F.typeCall_zip_2 _ _) (F.newCall_zip_2 _ _) (fun obj => F.args_object_init_3 obj _ _) F.entry_zip_new (new_zip b c l m xs ys) ⟨o1, o2, ?_⟩
  have p1 : (s.heap.push (itO b l)).objs.size = s.heap.objs.size + 1 := Heap.size_push ..
  have p2 : ((s.heap.push (itO b l)).push (itO c m)).objs.size = s.heap.objs.size + 2 := by rw [Heap.size_push, p1]
  have p3 : (zh3 b c s.heap l m).objs.size = s.heap.objs.size + 3 := (Heap.size_push ..).trans (by rw [p2])
  have p4 : ((zh3 b c s.heap l m).push (seqObj "tuple" #[.none, .none] 0)).objs.size = s.heap.objs.size + 4 := (Heap.size_push ..).trans (by rw [p3])
  have up1 : ∀ d o, (zh3 b c s.heap l m).get? d = some o → (zh5 b c s.heap l m).get? d = some o := fun d o g => Heap.get?_push_of_some _ (Heap.get?_push_of_some _ g)
  have up2 : ∀ d o, ((s.heap.push (itO b l)).push (itO c m)).get? d = some o → (zh5 b c s.heap l m).get? d = some o := fun d o g => up1 d o (Heap.get?_push_of_some _ g)
  have gz : IsZip (zh5 b c s.heap l m) (s.heap.objs.size + 4) (s.heap.objs.size + 2) (s.heap.objs.size + 3) .none := by
    rw [← p4]
    exact Heap.get?_push_size _ rfl
  have g3 : IsPair (zh5 b c s.heap l m) (s.heap.objs.size + 3) .none .none := by
    rw [← p3]
    exact Heap.get?_push_of_some _ (Heap.get?_push_size _ rfl)
  have g2 : IsPair (zh5 b c s.heap l m) (s.heap.objs.size + 2) (.ref s.heap.objs.size) (.ref (s.heap.objs.size + 1)) := up1 _ _ (by
    rw [← p2]
    exact Heap.get?_push_size _ rfl)
  have g1 : (zh5 b c s.heap l m).get? (s.heap.objs.size + 1) = some (itO c m) := up2 _ _ (by
    rw [← p1]
    exact Heap.get?_push_size _ rfl)
  have g0 : (zh5 b c s.heap l m).get? s.heap.objs.size = some (itO b l) := up2 _ _ (Heap.get?_push_of_some _ (Heap.get?_push_size _ rfl))
  exact ⟨⟨_, gz, rfl⟩, q _ gz g2 g3 (itO_at g0) (itO_at g1) fun d o g => up2 d o (Heap.get?_push_of_some _ (Heap.get?_push_of_some _ g))⟩
end
def ItzS (b c : Bool) (K : PySem.W.Frag) (l m : Addr) : It :=
  ⟨fun i H => ∃ (xs ys : List V) (x y : V), SqS b K H l xs ∧ SqS c K H m ys ∧ xs[i]? = some x ∧ ys[i]? = some y,
    fun i H v H' => ∃ T x y, v = .ref T ∧ H T = none ∧ H' = upd H T (.tup [x, y]) ∧ (∀ xs, SqS b K H l xs → xs[i]? = some x) ∧ ∀ ys, SqS c K H m ys → ys[i]? = some y,
    fun i H => ∃ xs ys : List V, SqS b K H l xs ∧ SqS c K H m ys ∧ (xs.length ≤ i ∨ ys.length ≤ i)⟩
def five (z TI TO i1 i2 : Addr) : List Addr := [z, TI, TO, i1, i2]
theorem five_cases {d z TI TO i1 i2 : Addr} (h : d ∈ five z TI TO i1 i2) : d = z ∨ d = TI ∨ d = TO ∨ d = i1 ∨ d = i2 := by simpa [five] using h
theorem turn_zw {P : Program} {w : World} {K : PySem.W.Frag} {elts : List Expr} {kk : Nat} {tpos : Pos} {b c : Bool} {l m z TI TO i1 i2 : Addr} (D : ZipApart z TI TO i1 i2 l m) :
    Turn P w K (.Tuple elts kk tpos) (ItzS b c K l m) (five z TI TO i1 i2) z (fun i h => IsZip h z TI TO .none ∧ IsPair h TI (.ref i1) (.ref i2) ∧ (∃ x y, IsPair h TO x y) ∧ SIt b h i1 l i ∧ SIt c h i2 m i) where
  mem := List.mem_cons_self
  obj := fun i h st d hd => by
    obtain ⟨zz, ti, ⟨x, y, to⟩, s1, s2⟩ := st
    rcases five_cases hd with e | e | e | e | e <;> rw [e]
    · exact ⟨_, zz, fun v q => nomatch q⟩
    · exact ⟨_, ti, fun v q => nomatch q⟩
    · exact ⟨_, to, fun v q => nomatch q⟩
    · exact s1.obj
    · exact s2.obj
  keep := fun i h h' st k => by
    obtain ⟨zz, ti, ⟨x, y, to⟩, s1, s2⟩ := st
    have m : ∀ d, (d = z ∨ d = TI ∨ d = TO ∨ d = i1 ∨ d = i2) → d ∈ five z TI TO i1 i2 := fun d e => by simpa [five] using e
    exact ⟨k z (m _ (by simp)) _ zz, k TI (m _ (by simp)) _ ti, ⟨x, y, k TO (m _ (by simp)) _ to⟩, s1.keep fun o g => k i1 (m _ (by simp)) o g, s2.keep fun o g => k i2 (m _ (by simp)) o g⟩
  item := by
    intro X hP hw hK _ i pins s σ H E I fp st go
    subst hP hw hK
    obtain ⟨zz, ti, ⟨x0, y0, to⟩, s1, s2⟩ := st
    obtain ⟨xs, ys, x, y, q1, q2, hx, hy⟩ := go
    obtain ⟨its, rv, o1, _⟩ := sOf I q1
    obtain ⟨jts, rw', o2, _⟩ := sOf I q2
    obtain ⟨u, hu, ru⟩ := rv.get hx
    obtain ⟨v, hv, rv2⟩ := rw'.get hy
    have zl := Heap.lt_size zz
    refine zw_item D zz ti to s1 s2 o1 o2 (x := u) (y := v) (by simpa using hu) (by simpa using hv) fun h1 z1 to1 s11 s21 g kp => ⟨_, rfl, wpAny_letOwnedTupleGo_zip (s := { s with heap := h1 }) z1 fun h2 z2 c2 => ?_⟩
    have g2 : h2.get? s.heap.objs.size = some (seqObj "tuple" #[u, v] 0) := (c2.2 _ (Nat.ne_of_gt zl)).trans g
    have new : ObjOk X.prog X.w (upd H s.heap.objs.size (.tup [x, y])) h2 s.heap.objs.size (.tup [x, y]) := ⟨by show 2 ≤ sizeLine; decide, [u, v], .cons ru (.cons rv2 .nil), ⟨_, g2, rfl, _, rfl⟩⟩
    have kp2 : ∀ d o, d ∉ five z TI TO i1 i2 → s.heap.get? d = some o → h2.get? d = some o := fun d o hd gd => by
      have n : ∀ e, (e = z ∨ e = TI ∨ e = TO ∨ e = i1 ∨ e = i2) → d ≠ e := fun e he r => hd (by rw [r]; simpa [five] using he)
      exact (c2.2 d (n z (by simp))).trans (kp d o (n z (by simp)) (n TO (by simp)) (n i1 (by simp)) (n i2 (by simp)) gd)
    have I2 : Inv X pins σ (upd H s.heap.objs.size (.tup [x, y])) { s with heap := h2 } := I.turnedNew (t' := s.toks) kp2 fp (Nat.le_refl _) new
    refine ⟨.ref s.heap.objs.size, _, I2, rfl, ⟨_, x, y, rfl, I.hok.fresh (Nat.le_refl _), rfl, fun zs hz => by rw [sInj I hz q1]; exact hx, fun zs hz => by rw [sInj I hz q2]; exact hy⟩, ⟨z2, (c2.2 _ D.TIz).trans (kp _ _ D.TIz D.TITO D.TIi1 D.TIi2 ti), ⟨u, v, (c2.2 _ D.TOz).trans to1⟩, s11.but c2 D.i1z, s21.but c2 D.i2z⟩, fun d hd => ?_⟩
    have lt : d < s.heap.objs.size := by
      rcases five_cases hd with e | e | e | e | e <;> rw [e]
      · exact zl
      · exact Heap.lt_size ti
      · exact Heap.lt_size to
      · exact s1.lt
      · exact s2.lt
    rw [upd_ne (Nat.ne_of_lt lt)]
    exact (fp d hd).1
  done := by
    intro X hP hw hK hcalm i pins s σ H E I fp st stop
    subst hP hw hK
    obtain ⟨zz, ti, ⟨x0, y0, to⟩, s1, s2⟩ := st
    obtain ⟨xs, ys, q1, q2, hend⟩ := stop
    obtain ⟨its, rv, o1, _⟩ := sOf I q1
    obtain ⟨jts, rw', o2, _⟩ := sOf I q2
    have n1 := rv.length
    have n2 := rw'.length
    have he : its.toArray[i]? = none ∨ jts.toArray[i]? = none := by
      rcases hend with e | e
      · exact .inl (by simp; omega)
      · exact .inr (by simp; omega)
    refine zw_end (I.ok.hd hcalm) D zz ti to s1 s2 o1 o2 he fun h1 kp => ⟨rfl, I.turnedL (t' := s.toks) (ch := five z TI TO i1 i2) (fun d o hd g => ?_) fp⟩
    have n : ∀ e, (e = z ∨ e = TI ∨ e = TO ∨ e = i1 ∨ e = i2) → d ≠ e := fun e he r => hd (by rw [r]; simpa [five] using he)
    exact kp d o (n z (by simp)) (n TO (by simp)) (n i1 (by simp)) (n i2 (by simp)) g
  self := fun A i s Q E st q => wpAny_pyIter_zip st.1 q
def iZw (K : PySem.W.Frag) (ta : TA) : TI := fun σ H R => ta σ H fun vs H1 => ∃ b c l m xs ys, vs = [.ref l, .ref m] ∧ SqS b K H1 l xs ∧ SqS c K H1 m ys ∧ R (ItzS b c K l m) H1
theorem pi_zw {X : Cx} {e e2 : Expr} {ta : TA} {p pos tpos : Pos} {elts : List Expr} {kk : Nat} (hg : Gl X "zip") (hm : X.mg "zip" = none) (ha : PA X [e, e2] ta) (hs : starEach [e, e2] X.env = (false, eval e X.env) :: starEach [e2] X.env := by rfl) (hpl : (backTo pos (starEach [e2] X.env)).any (·.1) = false := by rfl) :
    PI X (.Tuple elts kk tpos) (.Call (.Name "zip" p) [e, e2] [] pos) (iZw X.K ta) := by
  refine ⟨fun pins s σ H R I h => Call_ (ld_blt I hg hm PyProof.Rows.boot_zip (PyProof.Rows.callWith_type1 (thn (ha.run pos pins s σ H _ I h) fun us s1 ⟨vs, H1, I1, r1, q1⟩ => ?_) hs hpl))⟩
  obtain ⟨b, c, l, m, xs, ys, rfl, q1, q2, q⟩ := q1
  obtain ⟨u, v, rfl, ru, rv⟩ := vals2 r1
  cases ru
  cases rv
  obtain ⟨its, rv, o1, _⟩ := sOf I1 q1
  obtain ⟨jts, rw', o2, _⟩ := sOf I1 q2
  have lt : ∀ {b : Bool} {a : Addr} {zs : Array Value}, SOf b s1.heap a zs → a < s1.heap.objs.size := fun {b a zs} o => by
    cases b with
    | false =>
      obtain ⟨_, g, _⟩ := (o : s1.heap.IsList a zs)
      exact Heap.lt_size g
    | true =>
      obtain ⟨_, g, _⟩ := (o : s1.heap.IsTuple a zs)
      exact Heap.lt_size g
  refine call_zw o1 o2 fun h1 zz ti to t1 t2 kp => wpAny_pyIter_zip zz ?_
  have I2 : Inv X pins σ H1 { s1 with heap := h1 } := I1.kept (t' := s1.toks) kp
  refine ⟨s1.heap.objs.size + 4, five (s1.heap.objs.size + 4) (s1.heap.objs.size + 2) (s1.heap.objs.size + 3) s1.heap.objs.size (s1.heap.objs.size + 1), _, _, H1, rfl, I2, turn_zw (PySem.W.ktu_apart s1.heap.objs.size l m (lt o1) (lt o2)), ⟨zz, ti, ⟨_, _, to⟩, t1, t2⟩, fun d hd => ?_, q⟩
  have le : s1.heap.objs.size ≤ d := by rcases five_cases hd with e | e | e | e | e <;> rw [e] <;> first | exact Nat.le_add_right _ _ | exact Nat.le_refl _
  exact I1.fpOk le (I1.hok.fresh le)
end ZW

set_option Elab.async false
set_option linter.all false
set_option maxRecDepth 100000
set_option maxHeartbeats 4000000
/-! Zy: dict(zip(a, b)) of lists and tuples. -/
namespace ZW
open PySem PySem.Spec PyProof.Rows L2
section
variable {prog : Program} {w : World} {A : Around} {E : Value → Shared → Prop} {s : Shared} {b c : Bool} {z TI TO T i1 i2 l1 l2 : Addr} {f : Bool} {oT : Obj} {k1 k2 : Nat} {xs ys : Array Value} {x y : Value}
/-- what stays over a turn while a tuple is out -/
def KeptH (z i1 i2 : Addr) (h h' : Heap) : Prop := ∀ d o, d ≠ z → d ≠ i1 → d ≠ i2 → h.get? d = some o → h'.get? d = some o
theorem zw_item_held {Q : Option Value → Shared → Prop} (D : ZipApart z TI TO i1 i2 l1 l2) (zz : IsZipHeld s.heap z TI TO T f) (hT : s.heap.get? T = some oT) (ti : IsPair s.heap TI (.ref i1) (.ref i2)) (s1 : SIt b s.heap i1 l1 k1) (s2 : SIt c s.heap i2 l2 k2)
    (o1 : SOf b s.heap l1 xs) (o2 : SOf c s.heap l2 ys) (ex : xs[k1]? = some x) (ey : ys[k2]? = some y)
    (q : ∀ h', IsZipHeld h' z TI TO T true → SIt b h' i1 l1 (k1 + 1) → SIt c h' i2 l2 (k2 + 1) → IsPair h' s.heap.objs.size x y → KeptH z i1 i2 s.heap h' → Q (some (.ref s.heap.objs.size)) { s with heap := h' }) :
    wpAny (model prog w) A (pyNext (.ref z)) Q E s := by
  have ty : s.TypeIs (.ref z) "zip" := ⟨_, zz, rfl⟩
  unfold pyNext
  refine wpAny_bind (wpAny_attempt (wpAny_callSpecial?_slot (name := Str.ofString "__next__") ty F.slot_zip_next (wpAny_call_entry F.slot_zip_next ty F.entry_zip_next ?_ (F.args_zip_next_1 _))))
  show wpAny _ _ (field (.ref z) 2 >>= _) _ _ _
  refine wpAny_bind (wpAny_field zz rfl (x := .bool false) rfl ?_)
  show wpAny _ _ (field (.ref z) 3 >>= _) _ _ _
  refine wpAny_bind (wpAny_field zz rfl (x := .ref TI) rfl (wpAny_bind (wpAny_seqItems ti rfl ?_)))
  show wpAny _ _ (Builtin.SmallTypes.ownedTupleIsFree (.ref z) >>= _) _ _ _
  refine wpAny_bind (wpAny_tupleHeld_zip zz hT fun h1 z1 c1 => ?_)
  simp only [Bool.false_eq_true, if_false]
  refine wpAny_bind ?_
  rw [← Array.forIn_toList]
  simp only [List.forIn_cons, List.forIn_nil]
  refine wpAny_bind (wpAny_bind (wpAny_holding ?_))
  show wpAny _ _ (Builtin.SmallTypes.nextOf (.ref i1) >>= _) _ _ _
  refine wpAny_bind (s_item (s := { s with heap := h1 }) (s1.but c1 D.i1z) (o1.but c1 D.l1z) ex fun h2 t2 c2 => wpAny_pure ?_)
  refine wpAny_pure ?_
  refine wpAny_bind (wpAny_bind (wpAny_holding ?_))
  show wpAny _ _ (Builtin.SmallTypes.nextOf (.ref i2) >>= _) _ _ _
  refine wpAny_bind (s_item (s := { s with heap := h2 }) ((s2.but c1 D.i2z).but c2 D.i12.symm) ((o2.but c1 D.l2z).but c2 D.l2i1) ey fun h3 t3 c3 => wpAny_pure ?_)
  refine wpAny_pure (wpAny_pure ?_)
  show wpAny _ _ (newTuple [x, y] >>= _) _ _ _
  refine wpAny_bind (wpAny_newTuple ?_)
  have hsz : h3.objs.size = s.heap.objs.size := c3.1.trans (c2.1.trans c1.1)
  have z3 : IsZipHeld h3 z TI TO T true := (c3.2 _ D.i2z.symm).trans ((c2.2 _ D.i1z.symm).trans z1)
  have kp : KeptH z i1 i2 s.heap h3 := fun d o n1 n2 n3 g => (c3.2 d n3).trans ((c2.2 d n2).trans ((c1.2 d n1).trans g))
  have t23 : SIt b h3 i1 l1 (k1 + 1) := t2.but c3 D.i12
  refine wpAny_pure ⟨_, rfl, wpAny_pure ?_⟩
  show Q (some (.ref h3.objs.size)) _
  have hp : IsPair (h3.push { cls := .type "tuple", data := .seq #[x, y] }) h3.objs.size x y := Heap.get?_push_size _ rfl
  rw [hsz] at hp ⊢
  exact q _ (Heap.get?_push_of_some _ z3) (t23.keep fun o e => Heap.get?_push_of_some _ e) (t3.keep fun o e => Heap.get?_push_of_some _ e) hp fun d o n1 n2 n3 g => Heap.get?_push_of_some _ (kp d o n1 n2 n3 g)
theorem zw_end_held {Q : Option Value → Shared → Prop} (hh : A.handled = none) (D : ZipApart z TI TO i1 i2 l1 l2) (zz : IsZipHeld s.heap z TI TO T f) (hT : s.heap.get? T = some oT) (ti : IsPair s.heap TI (.ref i1) (.ref i2)) (s1 : SIt b s.heap i1 l1 k1) (s2 : SIt c s.heap i2 l2 k2)
    (o1 : SOf b s.heap l1 xs) (o2 : SOf c s.heap l2 ys) (ee : xs[k1]? = none ∨ ys[k2]? = none) (q : ∀ h', KeptH z i1 i2 s.heap h' → Q none { s with heap := h' }) : wpAny (model prog w) A (pyNext (.ref z)) Q E s := by
  have ty : s.TypeIs (.ref z) "zip" := ⟨_, zz, rfl⟩
  have stop : ∀ (h' : Heap) (e : Addr), KeptH z i1 i2 s.heap h' → (∃ o, h'.get? e = some o ∧ o.cls = .type "StopIteration") → wpAny (model prog w) A (isInstance (.ref e) (.type "StopIteration") >>= fun r => if r = true then (pure none : Sem (Option Value)) else throw (.ref e)) Q E { s with heap := h' } := fun h' e kp ⟨o, g, cl⟩ =>
    wpAny_bind (wpAny_isInstance (T := "StopIteration") (b := true) ⟨o, g, cl⟩ isSubtype_stop (wpAny_pure (q _ kp)))
  unfold pyNext
  refine wpAny_bind (wpAny_attempt (wpAny_callSpecial?_slot (name := Str.ofString "__next__") ty F.slot_zip_next (wpAny_call_entry F.slot_zip_next ty F.entry_zip_next ?_ (F.args_zip_next_1 _))))
  show wpAny _ _ (field (.ref z) 2 >>= _) _ _ _
  refine wpAny_bind (wpAny_field zz rfl (x := .bool false) rfl ?_)
  show wpAny _ _ (field (.ref z) 3 >>= _) _ _ _
  refine wpAny_bind (wpAny_field zz rfl (x := .ref TI) rfl (wpAny_bind (wpAny_seqItems ti rfl ?_)))
  show wpAny _ _ (Builtin.SmallTypes.ownedTupleIsFree (.ref z) >>= _) _ _ _
  refine wpAny_bind (wpAny_tupleHeld_zip zz hT fun h1 z1 c1 => ?_)
  simp only [Bool.false_eq_true, if_false]
  refine wpAny_bind ?_
  rw [← Array.forIn_toList]
  simp only [List.forIn_cons, List.forIn_nil]
  refine wpAny_bind (wpAny_bind (wpAny_holding ?_))
  show wpAny _ _ (Builtin.SmallTypes.nextOf (.ref i1) >>= _) _ _ _
  cases ex : xs[k1]? with
  | none =>
    refine wpAny_bind (s_end (s := { s with heap := h1 }) hh (s1.but c1 D.i1z) (o1.but c1 D.l1z) ex fun h2 e k2' he => ?_)
    exact stop h2 e (fun d o n1 n2 _ g => k2' d o n2 ((c1.2 d n1).trans g)) he
  | some x =>
    have ey : ys[k2]? = none := by
      rcases ee with r | r
      · rw [ex] at r
        cases r
      · exact r
    refine wpAny_bind (s_item (s := { s with heap := h1 }) (s1.but c1 D.i1z) (o1.but c1 D.l1z) ex fun h2 t2 c2 => wpAny_pure ?_)
    refine wpAny_pure ?_
    refine wpAny_bind (wpAny_bind (wpAny_holding ?_))
    show wpAny _ _ (Builtin.SmallTypes.nextOf (.ref i2) >>= _) _ _ _
    refine wpAny_bind (s_end (s := { s with heap := h2 }) hh ((s2.but c1 D.i2z).but c2 D.i12.symm) ((o2.but c1 D.l2z).but c2 D.l2i1) ey fun h3 e k3 he => ?_)
    exact stop h3 e (fun d o n1 n2 n3 g => k3 d o n3 ((c2.2 d n2).trans ((c1.2 d n1).trans g))) he
end
section
variable {prog : Program} {w : World}
theorem SOf.lt {b : Bool} {h : Heap} {l : Addr} {xs : Array Value} (x : SOf b h l xs) : ∃ o, h.get? l = some o := by
  cases b with
  | false =>
    obtain ⟨o, g, _⟩ := (x : h.IsList l xs)
    exact ⟨o, g⟩
  | true =>
    obtain ⟨o, g, _⟩ := (x : h.IsTuple l xs)
    exact ⟨o, g⟩
theorem pairArg_zw (b c : Bool) (z TI TO i1 i2 l1 l2 : Addr) (D : ZipApart z TI TO i1 i2 l1 l2) (xs ys : Array Value) :
    PairArg prog w "zip" z [z, TI, TO, i1, i2, l1, l2] [z, TO, i1, i2] (min xs.size ys.size) (fun i k v => xs[i]? = some k ∧ ys[i]? = some v)
      (fun h => IsZip h z TI TO .none ∧ IsPair h TI (.ref i1) (.ref i2) ∧ (∃ a b, IsPair h TO a b) ∧ SIt b h i1 l1 0 ∧ SIt c h i2 l2 0 ∧ SOf b h l1 xs ∧ SOf c h l2 ys) where
  type := fun s ok => ⟨_, ok.1, rfl⟩
  notDict := by decide
  keep := fun h h' ok hk => by
    obtain ⟨hz, hTI, ⟨a, b, hTO⟩, h1, h2, hl1, hl2⟩ := ok
    exact ⟨hk _ _ hz, hk _ _ hTI, ⟨a, b, hk _ _ hTO⟩, h1.keep fun o e => hk _ o e, h2.keep fun o e => hk _ o e, hl1.keep fun o e => hk _ o e, hl2.keep fun o e => hk _ o e⟩
  there := fun h ok b hb => by
    obtain ⟨hz, hTI, ⟨a, c, hTO⟩, h1, h2, hl1, hl2⟩ := ok
    obtain ⟨o1, g1, _⟩ := h1.obj
    obtain ⟨o2, g2, _⟩ := h2.obj
    obtain ⟨o3, g3⟩ := hl1.lt
    obtain ⟨o4, g4⟩ := hl2.lt
    simp only [List.mem_cons, List.not_mem_nil, or_false] at hb
    rcases hb with rfl | rfl | rfl | rfl | rfl | rfl | rfl
    all_goals first | exact ⟨_, hz⟩ | exact ⟨_, hTI⟩ | exact ⟨_, hTO⟩ | exact ⟨_, g1⟩ | exact ⟨_, g2⟩ | exact ⟨_, g3⟩ | exact ⟨_, g4⟩
  sub := fun b hb => by simp at hb ⊢; rcases hb with rfl | rfl | rfl | rfl <;> simp
  noKeys := fun A s Q E hA ok h => getAttrOr_miss_zip ok.1 rfl rfl rfl zip_no_keys (by decide +kernel) hA h
  iter := fun A s d Q E hA ok hd hdf h => by
    obtain ⟨hz, hTI, ⟨a, e, hTO⟩, h1, h2, hl1, hl2⟩ := ok
    simp only [List.mem_cons, List.not_mem_nil, or_false, not_or] at hdf
    obtain ⟨dz, dTI, dTO, di1, di2, dl1, dl2⟩ := hdf
    refine wpAny_pyIter_zip hz (h z [z, TO, i1, i2] (fun i h => IsPair h TI (.ref i1) (.ref i2) ∧ SIt b h i1 l1 i ∧ SIt c h i2 l2 i ∧ SOf b h l1 xs ∧ SOf c h l2 ys ∧
      ((IsZip h z TI TO .none ∧ ∃ a b, IsPair h TO a b) ∨ ∃ T f oT, IsZipHeld h z TI TO T f ∧ h.get? T = some oT ∧ T ≠ z ∧ T ≠ i1 ∧ T ≠ i2 ∧ T ≠ d)) s.heap s.toks ?_
      ⟨hTI, h1, h2, hl1, hl2, .inl ⟨hz, a, e, hTO⟩⟩ (fun _ _ e => e) fun b hb => .inl hb)
    exact {
      off := fun hm => by
        simp only [List.mem_cons, List.not_mem_nil, or_false] at hm
        rcases hm with e | e | e | e
        · exact dz e
        · exact dTO e
        · exact di1 e
        · exact di2 e
      frame := fun i h₁ h₂ st hk => by
        obtain ⟨hTI, h1, h2, hl1, hl2, hz⟩ := st
        refine ⟨hk _ _ (Ne.symm dTI) hTI, h1.keep fun o e => hk _ o (Ne.symm di1) e, h2.keep fun o e => hk _ o (Ne.symm di2) e, hl1.keep fun o e => hk _ o (Ne.symm dl1) e, hl2.keep fun o e => hk _ o (Ne.symm dl2) e, ?_⟩
        rcases hz with ⟨hz, a, b, hTO⟩ | ⟨T, f, oT, hz, hT, r1, r2, r3, r4⟩
        · exact .inl ⟨hk _ _ (Ne.symm dz) hz, a, b, hk _ _ (Ne.symm dTO) hTO⟩
        · exact .inr ⟨T, f, oT, hk _ _ (Ne.symm dz) hz, hk _ _ r4 hT, r1, r2, r3, r4⟩
      item := fun i s₁ Q₁ E₁ hi st hds hQ => by
        obtain ⟨hTI, h1, h2, hl1, hl2, hz⟩ := st
        have hix : i < xs.size := Nat.lt_of_lt_of_le hi (Nat.min_le_left ..)
        have hiy : i < ys.size := Nat.lt_of_lt_of_le hi (Nat.min_le_right ..)
        have ex := Array.getElem?_eq_getElem hix
        have ey := Array.getElem?_eq_getElem hiy
        have lt : ∀ {c o}, s₁.heap.get? c = some o → s₁.heap.objs.size ≠ c := fun e => Nat.ne_of_gt (Heap.lt_size e)
        have n1 : s₁.heap.objs.size ≠ i1 := Nat.ne_of_gt h1.lt
        have n2 : s₁.heap.objs.size ≠ i2 := Nat.ne_of_gt h2.lt
        rcases hz with ⟨hz, a, e, hTO⟩ | ⟨T, f, oT, hz, hT, r1, r2, r3, r4⟩
        · refine zw_item D hz hTI hTO h1 h2 hl1 hl2 ex ey fun h' a1 a2 a3 a4 a5 hk => ?_
          exact hQ s₁.heap.objs.size _ _ h' s₁.toks ⟨ex, ey⟩ (.inl ⟨_, a5, rfl, _, rfl⟩)
            ⟨hk _ _ D.TIz D.TITO D.TIi1 D.TIi2 hTI, a3, a4, hl1.keep fun o e => hk _ o D.l1z D.l1TO D.l1i1 D.l1i2 e, hl2.keep fun o e => hk _ o D.l2z D.l2TO D.l2i1 D.l2i2 e,
              .inr ⟨s₁.heap.objs.size, false, _, a1, a5, lt hz, n1, n2, Nat.ne_of_gt hds⟩⟩
            fun c o hc e => hk c o (fun x => hc (by simp [x])) (fun x => hc (by simp [x])) (fun x => hc (by simp [x])) (fun x => hc (by simp [x])) e
        · refine zw_item_held D hz hT hTI h1 h2 hl1 hl2 ex ey fun h' a1 a3 a4 a5 hk => ?_
          exact hQ s₁.heap.objs.size _ _ h' s₁.toks ⟨ex, ey⟩ (.inl ⟨_, a5, rfl, _, rfl⟩)
            ⟨hk _ _ D.TIz D.TIi1 D.TIi2 hTI, a3, a4, hl1.keep fun o e => hk _ o D.l1z D.l1i1 D.l1i2 e, hl2.keep fun o e => hk _ o D.l2z D.l2i1 D.l2i2 e,
              .inr ⟨T, true, oT, a1, hk _ _ r1 r2 r3 hT, r1, r2, r3, r4⟩⟩
            fun c o hc e => hk c o (fun x => hc (by simp [x])) (fun x => hc (by simp [x])) (fun x => hc (by simp [x])) e
      done := fun s₁ Q₁ E₁ st hQ => by
        obtain ⟨hTI, h1, h2, hl1, hl2, hz⟩ := st
        have hend : xs[min xs.size ys.size]? = none ∨ ys[min xs.size ys.size]? = none := by
          rcases Nat.le_total xs.size ys.size with h | h
          · exact .inl (Array.getElem?_eq_none (by rw [Nat.min_eq_left h]; exact Nat.le_refl _))
          · exact .inr (Array.getElem?_eq_none (by rw [Nat.min_eq_right h]; exact Nat.le_refl _))
        rcases hz with ⟨hz, a, e, hTO⟩ | ⟨T, f, oT, hz, hT, r1, r2, r3, r4⟩
        · exact zw_end hA D hz hTI hTO h1 h2 hl1 hl2 hend fun h' hk => hQ h' s₁.toks fun c o hc e => hk c o (fun x => hc (by simp [x])) (fun x => hc (by simp [x])) (fun x => hc (by simp [x])) (fun x => hc (by simp [x])) e
        · exact zw_end_held hA D hz hT hTI h1 h2 hl1 hl2 hend fun h' hk => hQ h' s₁.toks fun c o hc e => hk c o (fun x => hc (by simp [x])) (fun x => hc (by simp [x])) (fun x => hc (by simp [x])) e }
end
/-- dict(zip(a, b)): a has texts -/
def tDictZip (K : PySem.W.Frag) (ta : TA) : TE := fun σ H Q => ta σ H fun vs H1 => ∃ (b c : Bool) (l m : Addr) (ks : List Str) (ys : List V), vs = [.ref l, .ref m] ∧ SqS b K H1 l (ks.map V.str) ∧ SqS c K H1 m ys ∧ ∀ p, H1 p = none → Q (.ref p) (upd H1 p (.dK (mergeK [] ((ks.zip ys).map fun x => (Sum.inr x.1, x.2)))))
theorem kv_zip {P : Program} {w : World} : ∀ (ks : List Str) (ys : List V) {us vs : List Value}, Vals (ks.map V.str) us → Vals ys vs →
    ∃ kvs : List (Key × Value), KV ((ks.zip ys).map fun x => ((Sum.inr x.1 : Key), x.2)) kvs ∧ kvs.length = min us.length vs.length ∧ ∀ (i : Nat) (key v : Value), us[i]? = some key ∧ vs[i]? = some v → ∃ k, kvs[i]? = some (k, v) ∧ (mixKind P w).is k key = true
  | [], ys, us, vs, h1, _ => by
    rw [List.map_nil] at h1
    cases h1
    exact ⟨[], .nil, by simp, fun i key v h => by simp at h⟩
  | k :: ks, [], us, vs, _, h2 => by
    cases h2
    exact ⟨[], .nil, by simp, fun i key v h => by simp at h⟩
  | k :: ks, y :: ys, us, vs, h1, h2 => by
    rw [List.map_cons] at h1
    cases h1 with
    | cons rk hk =>
      cases h2 with
      | cons ry hy =>
        obtain ⟨kvs, h1, h2, h3⟩ := kv_zip (P := P) (w := w) ks ys hk hy
        refine ⟨(Sum.inr k, _) :: kvs, .cons ⟨rfl, ry⟩ h1, by simp [h2], fun i key v h => ?_⟩
        cases i with
        | zero =>
          simp at h
          obtain ⟨rfl, rfl⟩ := h
          exact ⟨_, rfl, kV_is (P := P) (w := w) (k := Sum.inr k) rk⟩
        | succ i => exact h3 i key v (by simpa using h)
theorem pe_dictZip {X : Cx} {e e2 : Expr} {ta : TA} {p1 p2 q1 q2 : Pos} (calm : X.calm = true) (g1 : Gl X "dict") (m1 : X.mg "dict" = none) (g2 : Gl X "zip") (m2 : X.mg "zip" = none) (ha : PA X [e, e2] ta)
    (hs : starEach [e, e2] X.env = (false, eval e X.env) :: starEach [e2] X.env := by rfl) (hpl : (backTo q2 (starEach [e2] X.env)).any (·.1) = false := by rfl)
    (s2 : starEach [.Call (.Name "zip" p2) [e, e2] [] q2] X.env = (false, eval (.Call (.Name "zip" p2) [e, e2] [] q2) X.env) :: starEach [] X.env := by rfl) :
    PE X (.Call (.Name "dict" p1) [.Call (.Name "zip" p2) [e, e2] [] q2] [] q1) (tDictZip X.K ta) := by
  refine ⟨fun pins s σ H Q I h => ?_⟩
  refine Call_ (ld_blt I g1 m1 boot_dict (PyProof.Rows.callWith_type1 (args_cons ?_ s2) s2 rfl))
  refine Call_ (ld_blt I g2 m2 PyProof.Rows.boot_zip (PyProof.Rows.callWith_type1 (thn (ha.run q2 pins s σ H _ I h) fun us s1 ⟨vs, H1, I1, r1, q1⟩ => ?_) hs hpl))
  obtain ⟨b, c, l, m, ks, ys, rfl, hl, hm, q⟩ := q1
  obtain ⟨u, v, rfl, ru, rv⟩ := vals2 r1
  cases ru
  cases rv
  obtain ⟨its, rv1, o1, z1⟩ := sOf I1 hl
  obtain ⟨jts, rv2, o2, z2⟩ := sOf I1 hm
  refine call_zw o1 o2 fun h1 zz ti to t1 t2 kp => args_nil ?_
  have I2 : Inv X pins σ H1 { s1 with heap := h1 } := I1.kept (t' := s1.toks) kp
  obtain ⟨ol, gl⟩ := o1.lt
  obtain ⟨om, gm⟩ := o2.lt
  have D := PySem.W.ktu_apart s1.heap.objs.size l m (Heap.lt_size gl) (Heap.lt_size gm)
  obtain ⟨kvs, k1, k2, k3⟩ := kv_zip (P := X.prog) (w := X.w) ks ys rv1 rv2
  have hlen : min its.toArray.size jts.toArray.size = min its.length jts.length := by simp
  refine call_dict_pairs (s := { s1 with heap := h1 }) (knd := mixKind X.prog X.w) (kvs := kvs) (pairArg_zw b c _ _ _ _ _ l m D its.toArray jts.toArray) (I2.ok.hd calm) ⟨zz, ti, ⟨_, _, to⟩, t1, t2, o1.keep fun o e => kp _ o e, o2.keep fun o e => kp _ o e⟩ ⟨by rw [hlen]; exact k2, fun i key v h => k3 i key v (by simpa using h)⟩ ?_ fun h' tk hd' k => ?_
  · have := rv1.length
    rw [hlen]
    refine Nat.le_trans (Nat.min_le_left ..) ?_
    rw [← this]
    exact z1
  · have le1 : s1.heap.objs.size ≤ h1.objs.size := Nat.le_of_lt (Nat.lt_of_le_of_lt (Nat.le_add_right _ 4) (Heap.lt_size zz))
    have hmx : (h1.objs.size == sysModules) = false := beq_eq_false_iff_ne.mpr (Nat.ne_of_gt I2.big)
    have hsz : (mergeK [] ((ks.zip ys).map fun x => ((Sum.inr x.1 : Key), x.2))).length ≤ sizeLine := by
      refine Nat.le_trans (length_mergeK _ []) ?_
      rw [List.length_nil, Nat.zero_add, List.length_map, List.length_zip]
      refine Nat.le_trans (Nat.min_le_left ..) ?_
      have := z1
      rw [List.length_map] at this
      exact this
    have fresh : ∀ d, s1.heap.objs.size ≤ d → s1.heap.get? d = none := fun d hd => by
      cases e : s1.heap.get? d with
      | none => rfl
      | some o => exact absurd (Heap.lt_size e) (Nat.not_lt.mpr hd)
    have keep : ∀ d o, s1.heap.get? d = some o → h'.get? d = some o := fun d o g => by
      refine k d o (fun hm => ?_) (kp d o g)
      have hlt := Heap.lt_size g
      simp only [List.mem_cons, List.not_mem_nil, or_false] at hm
      rcases hm with e | e | e | e <;> rw [e] at hlt <;> first | exact absurd hlt (Nat.not_lt.mpr (Nat.le_add_right _ _)) | exact absurd hlt (Nat.lt_irrefl _)
    refine ⟨.ref h1.objs.size, _, I1.laid (t' := tk) keep le1 (show ObjOk X.prog X.w (upd H1 h1.objs.size (.dK (mergeK [] ((ks.zip ys).map fun x => ((Sum.inr x.1 : Key), x.2))))) h' _ (.dK _) from ⟨hsz, hmx, merged [] kvs, KV.merge k1 .nil, hd'⟩), rfl, q _ (I1.hok.fresh le1)⟩
end ZW

set_option Elab.async false
set_option linter.all false
set_option maxRecDepth 100000
set_option maxHeartbeats 4000000
/-! Zv: short steps for lists or tuples: enumerate, zip, subscripts; a list or a dict by a number. -/
namespace Z
open PySem PySem.Spec PyProof.Rows L2 ZW
open Evl (Ex ex_l ex_t ex_rd sq_of st_of fresh_back RetL RetV)
section
variable {K : PySem.W.Frag} {b c : Bool} {a m : Addr} {xs ys : List V}
theorem walk_enS : Walk (IteS b K a) xs.length (fun H => SqS b K H a xs) (YPair (fun i => some (.int (i : Nat))) (fun i => xs[i]?)) := by
  refine ⟨fun i _ hi q => ⟨xs, xs[i], q, List.getElem?_eq_getElem hi⟩, fun _ q => ⟨xs, q, Nat.le_refl _⟩, fun i H v H' _ q y => ?_⟩
  obtain ⟨T, x, h1, h2, h3, h4⟩ := y
  exact ⟨T, _, x, h1, h2, h3, rfl, h4 xs q⟩
theorem walk_zw {n : Nat} (hn : n = min xs.length ys.length) : Walk (ItzS b c K a m) n (fun H => SqS b K H a xs ∧ SqS c K H m ys) (YPair (fun i => xs[i]?) (fun i => ys[i]?)) := by
  refine ⟨fun i _ hi q => ⟨xs, ys, xs[i]'(by omega), ys[i]'(by omega), q.1, q.2, List.getElem?_eq_getElem (by omega), List.getElem?_eq_getElem (by omega)⟩, fun _ q => ⟨xs, ys, q.1, q.2, by omega⟩, fun i H v H' _ q y => ?_⟩
  obtain ⟨T, x, y, h1, h2, h3, h4, h5⟩ := y
  exact ⟨T, x, y, h1, h2, h3, h4 xs q.1, h5 ys q.2⟩
theorem sqs_l {H : Hp} (h : SqL K H a xs) : SqS false K H a xs := h
theorem sqs_t {H : Hp} (h : SqT K H a xs) : SqS true K H a xs := h
theorem ex_s {H H' : Hp} (e : Ex H H') (h : SqS b K H a xs) : SqS b K H' a xs := by
  cases b with
  | false => exact ex_l e h
  | true => exact ex_t e h
end
def FEs (K : PySem.W.Frag) (g : TG) (tb : TS) (D : Ends) (σ : L2.St) (vs : List V) (H1 : Hp) : Prop := ∃ b a xs, vs = [.ref a] ∧ SqS b K H1 a xs ∧ FW (IteS b K a) g tb D σ H1
def FZw (K : PySem.W.Frag) (g : TG) (tb : TS) (D : Ends) (σ : L2.St) (vs : List V) (H1 : Hp) : Prop := ∃ b c l m xs ys, vs = [.ref l, .ref m] ∧ SqS b K H1 l xs ∧ SqS c K H1 m ys ∧ FW (ItzS b c K l m) g tb D σ H1
def CEs (K : PySem.W.Frag) (g : TG) (tt : TT) (te : TE) (vs : List Nat) (σ : L2.St) (xs : List V) (H1 : Hp) (Q : VK) : Prop := ∃ b a ys, xs = [.ref a] ∧ SqS b K H1 a ys ∧ CW (IteS b K a) g tt te vs σ H1 Q
def CZw (K : PySem.W.Frag) (g : TG) (tt : TT) (te : TE) (vs : List Nat) (σ : L2.St) (xs : List V) (H1 : Hp) (Q : VK) : Prop := ∃ b c l m ys zs, xs = [.ref l, .ref m] ∧ SqS b K H1 l ys ∧ SqS c K H1 m zs ∧ CW (ItzS b c K l m) g tt te vs σ H1 Q
section
variable {K : PySem.W.Frag} {σ : L2.St} {H : Hp} {Q : VK} {D : Ends} {g : TG} {tb : TS} {te tl : TE} {tt : TT} {ta : TA} {vs : List Nat} {a m : Addr} {xs ys : List V} {n j k : Nat} {b c : Bool}
theorem z_fes (q : ta σ H fun x H1 => FEs K g tb D σ x H1) : tFor (iEnS K ta) g tb D σ H := q
theorem z_fzw (q : ta σ H fun x H1 => FZw K g tb D σ x H1) : tFor (iZw K ta) g tb D σ H := q
theorem z_ces (q : ta σ H fun x H1 => CEs K g tt te vs σ x H1 Q) : tLc (iEnS K ta) g tt te vs σ H Q := q
theorem z_czw (q : ta σ H fun x H1 => CZw K g tt te vs σ x H1 Q) : tLc (iZw K ta) g tt te vs σ H Q := q
theorem z_FEs (hx : SqS b K H a xs) (Pv : Nat → L2.St → Hp → Prop) (h0 : Pv 0 σ H) (hG : ∀ i σ H, i ≤ xs.length → Pv i σ H → SqS b K H a xs)
    (hs : ∀ i x p σ H H', i < xs.length → xs[i]? = some x → Pv i σ H → Ex H H' → H p = none → H' = upd H p (.tup [.int (i : Nat), x]) → g (.ref p) σ H' fun σ2 H2 => tb { D with nx := Pv (i + 1), ct := Pv (i + 1), bk := D.nx } σ2 H2) (hd : ∀ σ H, Pv xs.length σ H → D.nx σ H) : FEs K g tb D σ [.ref a] H :=
  ⟨b, a, xs, rfl, hx, for_it walk_enS Pv h0 hG (fun i x σ H H' hi p y => by
    obtain ⟨T, u, v, rfl, e1, rfl, e3, e4⟩ := y
    cases e3
    exact hs i v T σ _ _ hi e4 p (Ex.new e1) e1 rfl) hd⟩
theorem z_FZw (hn : n = min xs.length ys.length) (hx : SqS b K H a xs) (hy : SqS c K H m ys) (Pv : Nat → L2.St → Hp → Prop) (h0 : Pv 0 σ H) (hG : ∀ i σ H, i ≤ n → Pv i σ H → SqS b K H a xs ∧ SqS c K H m ys)
    (hs : ∀ i x y p σ H H', i < n → xs[i]? = some x → ys[i]? = some y → Pv i σ H → Ex H H' → H p = none → H' = upd H p (.tup [x, y]) → g (.ref p) σ H' fun σ2 H2 => tb { D with nx := Pv (i + 1), ct := Pv (i + 1), bk := D.nx } σ2 H2) (hd : ∀ σ H, Pv n σ H → D.nx σ H) : FZw K g tb D σ [.ref a, .ref m] H :=
  ⟨b, c, a, m, xs, ys, rfl, hx, hy, for_it (walk_zw hn) Pv h0 hG (fun i x σ H H' hi p y => by
    obtain ⟨T, u, v, rfl, e1, rfl, e3, e4⟩ := y
    exact hs i u v T σ _ _ hi e3 e4 p (Ex.new e1) e1 rfl) hd⟩
/-- things without objects of their own -/
theorem z_CEs (hx : SqS b K H a xs) (hz : xs.length ≤ 40000) (f : Nat → Bool) (v : Nat → V) (hw : ∀ x y, wipe (((wipe σ vs).set k (some x)).set j (some y)) vs = wipe σ vs)
    (ht : ∀ i x H', i < xs.length → xs[i]? = some x → Ex H H' → Evl.EvT tt (((wipe σ vs).set k (some (.int (i : Nat)))).set j (some x)) H' (f i)) (he : ∀ i x H', i < xs.length → xs[i]? = some x → Ex H H' → f i = true → Evl.Ev te (((wipe σ vs).set k (some (.int (i : Nat)))).set j (some x)) H' (v i))
    (q : ∀ p H2, H p = none → Ex H H2 → H2 p = some (.lst (Evl.given xs.length f v)) → Q (.ref p) H2) : CEs K (gTup K 2 (gCons (gName k) (gCons (gName j) gNil))) tt te vs σ [.ref a] H Q :=
  ⟨b, a, xs, rfl, hx, fun Dl hD => lc_it walk_enS (Evl.Cw H f v Dl) ⟨hD, Ex.new hD, upd_same⟩ (fun _ _ _ p => ex_s p.2.1 hx) (fun i x H1 H2 hi p y => by
    obtain ⟨T, u, x', rfl, e1, rfl, e3, e4⟩ := y
    cases e3
    refine z_gtup2 (st_of upd_same) ⟨hw _ _, ?_⟩
    have p2 : Evl.Cw H f v Dl i (upd H1 T (.tup [.int (i : Nat), x'])) := ⟨p.1, p.2.1.trans (Ex.new e1), Ex.new e1 _ _ p.2.2⟩
    exact Evl.cw_turn p2 (by omega) (ht i x' H hi e4 (Ex.refl H)) fun hf => he i x' H hi e4 (Ex.refl H) hf) (fun H' p => q Dl H' p.1 p.2.1 p.2.2)⟩
theorem z_CZw (hn : n = min xs.length ys.length) (hx : SqS b K H a xs) (hy : SqS c K H m ys) (hz : n ≤ 40000) (f : Nat → Bool) (v : Nat → V) (hw : ∀ x y, wipe (((wipe σ vs).set k (some x)).set j (some y)) vs = wipe σ vs)
    (ht : ∀ i x y H', i < n → xs[i]? = some x → ys[i]? = some y → Ex H H' → Evl.EvT tt (((wipe σ vs).set k (some x)).set j (some y)) H' (f i)) (he : ∀ i x y H', i < n → xs[i]? = some x → ys[i]? = some y → Ex H H' → f i = true → Evl.Ev te (((wipe σ vs).set k (some x)).set j (some y)) H' (v i))
    (q : ∀ p H2, H p = none → Ex H H2 → H2 p = some (.lst (Evl.given n f v)) → Q (.ref p) H2) : CZw K (gTup K 2 (gCons (gName k) (gCons (gName j) gNil))) tt te vs σ [.ref a, .ref m] H Q :=
  ⟨b, c, a, m, xs, ys, rfl, hx, hy, fun Dl hD => lc_it (walk_zw hn) (Evl.Cw H f v Dl) ⟨hD, Ex.new hD, upd_same⟩ (fun _ _ _ p => ⟨ex_s p.2.1 hx, ex_s p.2.1 hy⟩) (fun i x H1 H2 hi p y => by
    obtain ⟨T, u, x', rfl, e1, rfl, e3, e4⟩ := y
    refine z_gtup2 (st_of upd_same) ⟨hw _ _, ?_⟩
    have p2 : Evl.Cw H f v Dl i (upd H1 T (.tup [u, x'])) := ⟨p.1, p.2.1.trans (Ex.new e1), Ex.new e1 _ _ p.2.2⟩
    exact Evl.cw_turn p2 (by omega) (ht i u x' H hi e3 e4 (Ex.refl H)) fun hf => he i u x' H hi e3 e4 (Ex.refl H) hf) (fun H' p => q Dl H' p.1 p.2.1 p.2.2)⟩
end
def CT (K : PySem.W.Frag) (g : TG) (tt : TT) (te : TE) (vs : List Nat) (σ : L2.St) (x : V) (H1 : Hp) (Q : VK) : Prop := ∃ a, x = .ref a ∧ (∃ xs, SqT K H1 a xs) ∧ CW (Itt K a) g tt te vs σ H1 Q
section
variable {K : PySem.W.Frag} {σ : L2.St} {H : Hp} {Q : VK} {g : TG} {te tl : TE} {tt : TT} {vs : List Nat} {a : Addr} {xs : List V} {j : Nat}
theorem z_ct (q : tl σ H fun x H1 => CT K g tt te vs σ x H1 Q) : tLc (iTup K tl) g tt te vs σ H Q := q
theorem z_CT (hx : SqT K H a xs) (hz : xs.length ≤ 40000) (f : Nat → Bool) (v : Nat → V) (hw : ∀ x, wipe ((wipe σ vs).set j (some x)) vs = wipe σ vs)
    (ht : ∀ i x H', i < xs.length → xs[i]? = some x → Ex H H' → Evl.EvT tt ((wipe σ vs).set j (some x)) H' (f i)) (he : ∀ i x H', i < xs.length → xs[i]? = some x → Ex H H' → f i = true → Evl.Ev te ((wipe σ vs).set j (some x)) H' (v i))
    (q : ∀ p H2, H p = none → Ex H H2 → H2 p = some (.lst (Evl.given xs.length f v)) → Q (.ref p) H2) : CT K (gName j) tt te vs σ (.ref a) H Q :=
  ⟨a, rfl, ⟨xs, hx⟩, z_CW (X := fun i => xs.getD i .non) (walk_tup.mono (fun _ h => h) (fun i H x H' _ _ y => ⟨y.1, by rw [List.getD_eq_getElem?_getD, y.2] <;> rfl⟩)) hz (fun _ e => ex_t e hx) f v hw
    (fun i H' hi e => ht i _ H' hi (by rw [List.getD_eq_getElem?_getD, List.getElem?_eq_getElem hi] <;> rfl) e) (fun i H' hi e hf => he i _ H' hi (by rw [List.getD_eq_getElem?_getD, List.getElem?_eq_getElem hi] <;> rfl) e hf) q⟩
end
theorem z_lenSq {K : PySem.W.Frag} {H : Hp} {Q : VK} {l : Addr} {xs : List V} {b : Bool} (h : ZW.SqS b K H l xs) (q : Q (.int xs.length) H) : cLenSeq K [.ref l] H Q := by
  cases b with
  | false => exact z_lenL h q
  | true => exact z_lenT h q
/-! ### a list, a tuple or a dict by a number -/
def rIxA (K : PySem.W.Frag) : R2 := fun x y H Q => rIxL K x y H Q ∨ rIxT K x y H Q ∨ ∃ a kvs i v, x = .ref a ∧ y = .int i ∧ H a = some (.dK kvs) ∧ valV kvs (Sum.inl i) = some v ∧ Q v H
theorem ix_any {X : Cx} (hu : X.A.units + 1 < cLine) : IxR X (rIxA X.K) := by
  intro value slice pins s σ H x y v u Q I rx ry h hs
  rcases h with h | h | ⟨a, kvs, i, r, rfl, rfl, hd, e, q⟩
  · exact ix_list value slice pins s σ H x y v u Q I rx ry h hs
  · exact ix_tup value slice pins s σ H x y v u Q I rx ry h hs
  · cases rx
    have dg : DGet H a (.int i) (some r) := by
      rw [← e]
      exact DGet.k (k := Sum.inl i) hd
    exact tail_any (dict_typeIs I dg) slot_dict_getitem.lookup (d_getItem hu I dg ry fun w' s' I' r' => ⟨r, H, I', r', q⟩) hs
section
variable {K : PySem.W.Frag} {H : Hp} {Q : VK} {a : Addr} {xs : List V} {i : Int} {v : V} {kvs : List (Key × V)} {b : Bool}
theorem z_ixAs (h : ZW.SqS b K H a xs) (e : atI xs i = some v) (q : Q v H) : rIxA K (.ref a) (.int i) H Q := by
  cases b with
  | false => exact .inl (z_ixL h e q)
  | true => exact .inr (.inl (z_ixT h e q))
theorem z_ixAd (h : H a = some (.dK kvs)) (e : valV kvs (Sum.inl i) = some v) (q : Q v H) : rIxA K (.ref a) (.int i) H Q := .inr (.inr ⟨a, kvs, i, v, rfl, rfl, h, e, q⟩)
end
end Z

set_option Elab.async false
set_option linter.all false
set_option maxRecDepth 100000
set_option maxHeartbeats 4000000
/-! Zf: loops and comprehensions over the keys of a locked dict. -/
namespace Z
open PySem PySem.Spec PyProof.Rows L2
open Evl (Ex ex_l ex_t ex_rd sq_of st_of fresh_back)
def FK (g : TG) (tb : TS) (D : Ends) (σ : L2.St) (x : V) (H1 : Hp) : Prop := ∃ d o, x = .ref d ∧ ((∃ kvs, H1 d = some (.frz o (.dK kvs)) ∧ FW (Itk d o kvs) g tb D σ H1) ∨ ∃ kvs, H1 d = some (.frz o (.dT kvs)) ∧ FW (Itkt d o kvs) g tb D σ H1)
def CK (g : TG) (tt : TT) (te : TE) (vs : List Nat) (σ : L2.St) (x : V) (H1 : Hp) (Q : VK) : Prop := ∃ d o, x = .ref d ∧ ((∃ kvs, H1 d = some (.frz o (.dK kvs)) ∧ CW (Itk d o kvs) g tt te vs σ H1 Q) ∨ ∃ kvs, H1 d = some (.frz o (.dT kvs)) ∧ CW (Itkt d o kvs) g tt te vs σ H1 Q)
section
variable {K : PySem.W.Frag} {σ : L2.St} {H : Hp} {D : Ends} {Q : VK} {g : TG} {tb : TS} {td te : TE} {tt : TT} {vs : List Nat} {d : Addr} {o : Obj} {kvs : List (Key × V)} {j : Nat}
theorem z_fk (q : td σ H fun x H1 => FK g tb D σ x H1) : tFor (iKeys td) g tb D σ H := q
theorem z_ck (q : td σ H fun x H1 => CK g tt te vs σ x H1 Q) : tLc (iKeys td) g tt te vs σ H Q := q
theorem z_FK (hd : H d = some (.frz o (.dK kvs))) (Pv : Nat → L2.St → Hp → Prop) (h0 : Pv 0 σ H) (hG : ∀ i σ H, i ≤ kvs.length → Pv i σ H → H d = some (.frz o (.dK kvs)))
    (hs : ∀ i k v σ H, i < kvs.length → kvs[i]? = some (k, v) → Pv i σ H → g (kV k) σ H fun σ2 H2 => tb { D with nx := Pv (i + 1), ct := Pv (i + 1), bk := D.nx } σ2 H2) (he : ∀ σ H, Pv kvs.length σ H → D.nx σ H) : FK g tb D σ (.ref d) H :=
  ⟨d, o, rfl, .inl ⟨kvs, hd, for_it walk_keys Pv h0 hG (fun i x σ H H' hi p y => by
    obtain ⟨rfl, k, v, e, rfl⟩ := y
    exact hs i k v σ _ hi e p) he⟩⟩
theorem z_CK (hd : H d = some (.frz o (.dK kvs))) (hz : kvs.length ≤ 40000) (f : Nat → Bool) (v : Nat → V) (hw : ∀ x, wipe ((wipe σ vs).set j (some x)) vs = wipe σ vs)
    (ht : ∀ i k u H', i < kvs.length → kvs[i]? = some (k, u) → Ex H H' → Evl.EvT tt ((wipe σ vs).set j (some (kV k))) H' (f i)) (he : ∀ i k u H', i < kvs.length → kvs[i]? = some (k, u) → Ex H H' → f i = true → Evl.Ev te ((wipe σ vs).set j (some (kV k))) H' (v i))
    (q : ∀ p H2, H p = none → Ex H H2 → H2 p = some (.lst (Evl.given kvs.length f v)) → Q (.ref p) H2) : CK (gName j) tt te vs σ (.ref d) H Q :=
  ⟨d, o, rfl, .inl ⟨kvs, hd, z_CW (X := fun i => ((kvs[i]?).map fun kv => kV kv.1).getD .non) (walk_keys.mono (fun _ h => h) (fun i H x H' _ _ y => by
      obtain ⟨e, k, u, e2, e3⟩ := y
      exact ⟨e, by rw [e2, e3] <;> rfl⟩)) hz (fun _ e => e _ _ hd) f v hw
    (fun i H' hi e => by
      rcases hk : kvs[i] with ⟨k, u⟩
      have h2 : kvs[i]? = some (k, u) := by rw [List.getElem?_eq_getElem hi, hk]
      show Evl.EvT tt ((wipe σ vs).set j (some (((kvs[i]?).map fun kv => kV kv.1).getD .non))) H' (f i)
      rw [h2]
      exact ht i k u H' hi h2 e) (fun i H' hi e hf => by
      rcases hk : kvs[i] with ⟨k, u⟩
      have h2 : kvs[i]? = some (k, u) := by rw [List.getElem?_eq_getElem hi, hk]
      show Evl.Ev te ((wipe σ vs).set j (some (((kvs[i]?).map fun kv => kV kv.1).getD .non))) H' (v i)
      rw [h2]
      exact he i k u H' hi h2 e hf) q⟩⟩
theorem z_CKw (hd : H d = some (.frz o (.dK kvs))) (Pv : Addr → Nat → Hp → Prop) (h0 : ∀ D, H D = none → Pv D 0 (upd H D (.lst []))) (hG : ∀ D i H1, H D = none → Pv D i H1 → H1 d = some (.frz o (.dK kvs))) (hw : ∀ x, wipe ((wipe σ vs).set j (some x)) vs = wipe σ vs)
    (hs : ∀ D i k v H1, H D = none → i < kvs.length → kvs[i]? = some (k, v) → Pv D i H1 → te ((wipe σ vs).set j (some (kV k))) H1 fun y H2 => ∃ acc, H2 D = some (.lst acc) ∧ acc.length < sizeLine ∧ Pv D (i + 1) (upd H2 D (.lst (acc ++ [y]))))
    (q : ∀ D H2, H D = none → Pv D kvs.length H2 → Q (.ref D) H2) : CK (gName j) tYes te vs σ (.ref d) H Q :=
  ⟨d, o, rfl, .inl ⟨kvs, hd, fun D hD => lc_it walk_keys (Pv D) (h0 D hD) (fun i H1 _ p => hG D i H1 hD p) (fun i x H1 H2 hi p y => by
    obtain ⟨rfl, k, v, e, rfl⟩ := y
    exact ⟨hw _, hs D i k v H2 hD hi e p⟩) (fun H' p => q D H' hD p)⟩⟩
/-- the last one of a list -/
theorem z_ixLast {l : Addr} {xs : List V} {v : V} (h : SqL K H l (xs ++ [v])) (q : Q v H) : rIxL K (.ref l) (.int (-1)) H Q := ⟨l, _, -1, v, rfl, rfl, h, atI_last xs v, q⟩
theorem z_rpopLast {a : Addr} {xs : List V} {v : V} (h : H a = some (.lst (xs ++ [v]))) (q : Q v (upd H a (.lst xs))) : rPop (.ref a) [] H Q :=
  z_rpop (v := v) h (by simp) (by rw [List.dropLast_concat]; exact q)
theorem z_revOf {te : TE} (q : te σ H fun x H1 => ∃ (a : Addr) (xs : List V), x = .ref a ∧ SqL K H1 a xs ∧ ∀ q, H1 q = none → Q (.ref q) (upd H1 q (.lst xs.reverse))) : tRevOf K te σ H Q := q
end
end Z

set_option Elab.async false
set_option linter.all false
set_option maxRecDepth 100000
set_option maxHeartbeats 4000000
/-! Zn: promises that are never asked (the start of a recursion), dict comprehensions, loops and comprehensions with two or three targets, tuple.index. -/
namespace ZN
open PySem PySem.Spec PyProof.Rows L2 Z
open Evl (Ex ex_l ex_t ex_rd sq_of st_of fresh_back)
section
variable {P : Program} {w : World} {K : PySem.W.Frag} {mg : Str → Option Value} {base : Heap}
theorem cal_no {x : Str} {st : Stmt} {ps : List Str} {k : Nat} {sp : Sp} (D : DX K mg x st)
    (hb : ∀ (kV doc pm : Value) (an : Option Addr) (cdv ct : Value) (us : List Value), us.length = ps.length → bindArgs (PySem.W.fnOf x x (defArgs st) (defBody st) (defScope st) .none kV doc pm an cdv ct) ⟨us, []⟩ = pure (ps.zip us))
    (no : ∀ vs H Q E, ¬ sp vs H Q E) : Cal P w K mg base k x sp := by
  obtain ⟨f, fd, F, hm⟩ := D
  exact ⟨f, fd, ps, ⟨fun vs H Q E h => absurd h (no vs H Q E), fun A outer s H args us vs Q E _ _ _ _ h => absurd h (no vs H Q E)⟩, hm, F.kp, F.bindsN hb⟩
theorem calG_no {x : Str} {st : Stmt} {ps : List Str} {k : Nat} {sp : Sp} (D : DX K mg x st)
    (hb : ∀ (kV doc pm : Value) (an : Option Addr) (cdv ct : Value) (us : List Value), us.length = ps.length → bindArgs (PySem.W.fnOf x x (defArgs st) (defBody st) (defScope st) .none kV doc pm an cdv ct) ⟨us, []⟩ = pure (ps.zip us))
    (no : ∀ vs H Q E, ¬ sp vs H Q E) : CalG P w K mg base k x sp := by
  obtain ⟨f, fd, F, hm⟩ := D
  exact ⟨f, fd, ps, ⟨fun vs H Q E h => absurd h (no vs H Q E), fun B st s H ar us vs Q E _ _ _ _ _ h => absurd h (no vs H Q E)⟩, hm, F.kp, F.bindsN hb⟩
end
abbrev rTIndex (K : PySem.W.Frag) : V → List V → Hp → VK → Prop := fun x xs H Q => ∃ p, ∃ ys : List Str, ∃ z j, x = .ref p ∧ xs = [.str z] ∧ SqT K H p (ys.map V.str) ∧ ys[j]? = some z ∧ (∀ m, m < j → ys[m]? ≠ some z) ∧ Q (.int (j : Nat)) H
def DC (K : PySem.W.Frag) (J : It) (g : TG) (tt : TT) (tk tv : TE) (vs : List Nat) (σ : L2.St) (H1 : Hp) (Q : VK) : Prop := ∀ D, H1 D = none → ∃ W : Nat → Nat → Hp → Prop, (∃ m, W 0 m (upd H1 D (.dK []))) ∧ ∀ i m H, W i m H →
  (J.stop i H ∧ Q (.ref D) H) ∨ (J.go i H ∧ ∃ Nx : Hp → Prop, (∀ H', Nx H' → ∃ m', m' < m ∧ W (i + 1) m' H') ∧ ∀ x H', J.yld i H x H' → g x (wipe σ vs) H' fun σ2 H2 => wipe σ2 vs = wipe σ vs ∧ tt σ2 H2 fun b H3 =>
    if b = true then tk σ2 H3 fun y H4 => tv σ2 H4 fun z H5 => ∃ kvs k, y = kV k ∧ H5 D = some (.dK kvs) ∧ kvs.length < sizeLine ∧ Nx (upd H5 D (.dK (putK kvs k z))) else Nx H3)
def DT (K : PySem.W.Frag) (g : TG) (tt : TT) (tk tv : TE) (vs : List Nat) (σ : L2.St) (x : V) (H1 : Hp) (Q : VK) : Prop := ∃ a, x = .ref a ∧ (∃ xs, SqT K H1 a xs) ∧ DC K (Itt K a) g tt tk tv vs σ H1 Q
section
variable {K : PySem.W.Frag} {σ : L2.St} {H : Hp} {Q : VK} {QA : List V → Hp → Prop} {D : Ends} {g : TG} {tb : TS} {tt : TT} {tk tv te tl : TE} {ta : TA} {vs : List Nat} {a : Addr} {xs : List V} {j : Nat} {x y z v : V}
theorem z_dt (q : te σ H fun x H1 => DT K g tt tk tv vs σ x H1 Q) : tDc (iTup K te) g tt tk tv vs σ H Q := q
theorem z_DT (hx : SqT K H a xs) (Pv : Addr → Nat → Hp → Prop) (h0 : ∀ D, H D = none → Pv D 0 (upd H D (.dK []))) (hG : ∀ D i H1, H D = none → Pv D i H1 → SqT K H1 a xs)
    (hs : ∀ D i x H1, H D = none → i < xs.length → xs[i]? = some x → Pv D i H1 → g x (wipe σ vs) H1 fun σ2 H2 => wipe σ2 vs = wipe σ vs ∧ tt σ2 H2 fun b H3 =>
      if b = true then tk σ2 H3 fun y H4 => tv σ2 H4 fun z H5 => ∃ kvs k, y = kV k ∧ H5 D = some (.dK kvs) ∧ kvs.length < sizeLine ∧ Pv D (i + 1) (upd H5 D (.dK (putK kvs k z))) else Pv D (i + 1) H3)
    (q : ∀ D H2, H D = none → Pv D xs.length H2 → Q (.ref D) H2) : DT K g tt tk tv vs σ (.ref a) H Q :=
  ⟨a, rfl, ⟨xs, hx⟩, fun D hD => dc_tup (Pv D) (h0 D hD) (fun i H1 _ p => hG D i H1 hD p) (fun i x H1 e p => hs D i x H1 hD (List.getElem?_eq_some_iff.mp e).1 e p) (fun H' p => q D H' hD p)⟩
/-- two, three targets -/
theorem z_g2 {m n : Nat} {QS : L2.St → Hp → Prop} (h : SqT K H a [x, y]) (q : QS ((σ.set m (some x)).set n (some y)) H) : gTup K 2 (gCons (gName m) (gCons (gName n) gNil)) (.ref a) σ H QS := z_gtup2 h q
theorem z_g3 {m n k : Nat} {QS : L2.St → Hp → Prop} (h : SqT K H a [x, y, z]) (q : QS (((σ.set m (some x)).set n (some y)).set k (some z)) H) : gTup K 3 (gCons (gName m) (gCons (gName n) (gCons (gName k) gNil))) (.ref a) σ H QS :=
  ⟨a, _, rfl, h, rfl, x, [y, z], rfl, y, [z], rfl, z, [], rfl, rfl, q⟩
theorem z_g5 {i1 i2 i3 i4 i5 : Nat} {x1 x2 x3 x4 x5 : V} {QS : L2.St → Hp → Prop} (h : SqT K H a [x1, x2, x3, x4, x5]) (q : QS (((((σ.set i1 (some x1)).set i2 (some x2)).set i3 (some x3)).set i4 (some x4)).set i5 (some x5)) H) :
    gTup K 5 (gCons (gName i1) (gCons (gName i2) (gCons (gName i3) (gCons (gName i4) (gCons (gName i5) gNil))))) (.ref a) σ H QS :=
  ⟨a, _, rfl, h, rfl, x1, _, rfl, x2, _, rfl, x3, _, rfl, x4, _, rfl, x5, [], rfl, rfl, q⟩
/-- a comprehension over a list, any target and test, by one's own invariant -/
theorem z_CLg (hx : SqL K H a xs) (Pv : Addr → Nat → Hp → Prop) (h0 : ∀ D, H D = none → Pv D 0 (upd H D (.lst []))) (hG : ∀ D i H1, H D = none → Pv D i H1 → SqL K H1 a xs)
    (hs : ∀ D i x H1, H D = none → i < xs.length → xs[i]? = some x → Pv D i H1 → g x (wipe σ vs) H1 fun σ2 H2 => wipe σ2 vs = wipe σ vs ∧ tt σ2 H2 fun b H3 =>
      if b = true then te σ2 H3 fun y H4 => ∃ acc, H4 D = some (.lst acc) ∧ acc.length < sizeLine ∧ Pv D (i + 1) (upd H4 D (.lst (acc ++ [y]))) else Pv D (i + 1) H3)
    (q : ∀ D H2, H D = none → Pv D xs.length H2 → Q (.ref D) H2) : CL K g tt te vs σ (.ref a) H Q :=
  ⟨a, rfl, ⟨xs, hx⟩, fun D hD => lc_it walk_list (Pv D) (h0 D hD) (fun i H1 _ p => hG D i H1 hD p) (fun i x H1 H2 hi p y => by
    obtain ⟨rfl, e⟩ := y
    exact hs D i x H2 hD hi e p) (fun H' p => q D H' hD p)⟩
end
end ZN

set_option Elab.async false
set_option linter.all false
set_option maxRecDepth 100000
set_option maxHeartbeats 4000000
/-! Zi: tuple(xs) whose new tuple is known as an object (without attributes of its own), and t.index(x) of such a tuple. -/
namespace ZI
open PySem PySem.Spec PyProof.Rows L2 Z
abbrev cTupOfF (K : PySem.W.Frag) : List V → Hp → VK → Prop := fun xs H Q => ∃ p ys, xs = [.ref p] ∧ SqL K H p ys ∧ ∀ l o, H l = none → o.dict = none → Q (.ref l) (upd H l (.frz o (.tup ys)))
/-- a tuple that is known as an object -/
def TyT (x : V) (H : Hp) : Prop := ∃ p o ys, x = .ref p ∧ H p = some (.frz o (.tup ys)) ∧ o.dict = none
def tTIdx (K : PySem.W.Frag) (to : TE) (t : TA) : TE := fun σ H Q => to σ H fun x H1 => TyT x H1 ∧ t σ H1 fun xs H2 => ZN.rTIndex K x xs H2 Q
section
variable {X : Cx}
theorem call_tuple_ofF : CallR X (.type "tuple") (cTupOfF X.K) := by
  intro pins s σ H xs us Q I r h
  obtain ⟨p, ys, rfl, hq, q⟩ := h
  obtain ⟨u, rfl, rx⟩ := vals1 r
  cases rx
  obtain ⟨its, r', pl, hz⟩ := I.list hq
  have hlen := r'.length
  refine call_tuple_list pl.isList (fun h' kp => ?_) (by simp only [List.size_toArray] <;> omega)
  have I1 : Inv X pins σ H { s with heap := h' } := I.kept (t' := s.toks) kp
  have I2 : Inv X pins σ (upd H h'.objs.size (.frz { cls := .type "tuple", data := .seq its.toArray } (.tup ys))) { s with heap := h'.push { cls := .type "tuple", data := .seq its.toArray } } :=
    I1.laid (t' := s.toks) (fun b o e => Heap.get?_push_of_some _ e) (Nat.le_refl _) (show ObjOk X.prog X.w _ _ _ (.frz _ (.tup ys)) from ⟨Heap.get?_push_size _ rfl, hz, its, r', IsTup.new _ _⟩)
  exact ⟨.ref h'.objs.size, _, I2, rfl, q _ _ (I1.hok.fresh (Nat.le_refl _)) rfl⟩
variable {o e : Expr} {es : List Expr} {to : TE} {t : TA} {apos cpos : Pos}
theorem pe_tIdx (ho : PE X o to) (ha : PA X (e :: es) t)
    (hbase : attributeBase o "index" X.env (eval o X.env) = eval o X.env := by rfl)
    (hfew : ((backTo cpos (starEach (e :: es) X.env)).all (fun x => !x.1) && (backToKw cpos (keywordEach [] X.env)).all (fun x => x.1.isSome)
      && decide ((e :: es).length + ([] : List Keyword).length + (if ([] : List Keyword).isEmpty then 0 else 1) < 30)) = true := by rfl)
    (hline : (apos.endLine == cpos.line) = true := by rfl) (hs : starEach (e :: es) X.env = (false, eval e X.env) :: starEach es X.env := by rfl) (hplain : (backTo cpos (starEach es X.env)).any (·.1) = false := by rfl) :
    PE X (.Call (.Attribute o "index" apos) (e :: es) [] cpos) (tTIdx X.K to t) := by
  refine ⟨fun pins s σ H Q I h => ?_⟩
  refine wpAny_Call_method_late hbase hfew hline rfl (thn (ho.run pins s σ H _ I h) fun v s1 ⟨x, H1, I1, r1, ty, q1⟩ => ?_)
  have hh : s1.TypeIs v "tuple" ∧ ∀ a, v = .ref a → ∃ ob, s1.heap.get? a = some ob ∧ ob.dict = none := by
    obtain ⟨p, ob, ys, rfl, hp, hd⟩ := ty
    cases r1
    obtain ⟨g, _, its, _, ob', g', c, _⟩ := I1.hok p _ hp
    refine ⟨⟨ob', g', c⟩, fun a ea => ?_⟩
    cases ea
    exact ⟨ob, g, hd⟩
  obtain ⟨h1, h2⟩ := hh
  refine ⟨"tuple", "tuple.index", PySem.F.plainAttrs_tuple, PySem.F.slot_tuple_index, PySem.F.type_tuple_index, h1, h2, ?_⟩
  have hA := ha.run cpos pins s1 σ H1 _ I1 q1
  rw [hs] at hA ⊢
  refine Calls.callWith_builtin (by show (false || (backTo cpos (starEach es X.env)).any (·.1)) = false; rw [hplain] <;> rfl) (Calls.evalArgs_plain ?_)
  exact thn hA fun us s2 ⟨vs, H2, I2, r2, q2⟩ => mt_tup_index pins s2 σ H2 x vs v us Q I2 r1 r2 q2
end
section
variable {K : PySem.W.Frag} {σ : L2.St} {H : Hp} {Q : VK} {to : TE} {t : TA} {p : Addr} {o : Obj} {ys : List V} {zs : List Str} {z : Str} {j : Nat}
theorem z_tidx (q : to σ H fun x H1 => TyT x H1 ∧ t σ H1 fun xs H2 => ZN.rTIndex K x xs H2 Q) : tTIdx K to t σ H Q := q
theorem z_tyt {R : Prop} (h : H p = some (.frz o (.tup ys))) (d : o.dict = none) (q : R) : TyT (.ref p) H ∧ R := ⟨⟨p, o, ys, rfl, h, d⟩, q⟩
theorem fst_of (h : H p = some (.frz o (.tup ys))) : SqT K H p ys := .inl (.inr ⟨o, h⟩)
theorem z_rtidx (h : SqT K H p (zs.map V.str)) (hj : zs[j]? = some z) (n : ∀ m, m < j → zs[m]? ≠ some z) (q : Q (.int (j : Nat)) H) : ZN.rTIndex K (.ref p) [.str z] H Q := ⟨p, zs, z, j, rfl, rfl, h, hj, n, q⟩
theorem first_at : ∀ {zs : List Str} {z : Str}, z ∈ zs → ∃ j : Nat, zs[j]? = some z ∧ ∀ m : Nat, m < j → zs[m]? ≠ some z
  | [], _, h => by cases h
  | y :: zs, z, h => by
    by_cases e : y = z
    · exact ⟨0, by rw [e] <;> rfl, fun m hm => absurd hm (Nat.not_lt_zero m)⟩
    · have hz : z ∈ zs := by
        rcases List.mem_cons.mp h with h | h
        · exact absurd h.symm e
        · exact h
      obtain ⟨j, h1, h2⟩ := first_at hz
      refine ⟨j + 1, h1, fun m hm => ?_⟩
      cases m with
      | zero => exact fun x => e (Option.some.inj x)
      | succ m => exact h2 m (by omega)
end
section
variable {K : PySem.W.Frag} {σ : L2.St} {H : Hp} {Q : VK} {g : TG} {tt : TT} {te : TE} {vs : List Nat} {a : Addr} {xs : List V}
/-- a comprehension over a tuple, any target and test, by one's own invariant -/
theorem z_CTg (hx : SqT K H a xs) (Pv : Addr → Nat → Hp → Prop) (h0 : ∀ D, H D = none → Pv D 0 (upd H D (.lst []))) (hG : ∀ D i H1, H D = none → Pv D i H1 → SqT K H1 a xs)
    (hs : ∀ D i x H1, H D = none → i < xs.length → xs[i]? = some x → Pv D i H1 → g x (wipe σ vs) H1 fun σ2 H2 => wipe σ2 vs = wipe σ vs ∧ tt σ2 H2 fun b H3 =>
      if b = true then te σ2 H3 fun y H4 => ∃ acc, H4 D = some (.lst acc) ∧ acc.length < sizeLine ∧ Pv D (i + 1) (upd H4 D (.lst (acc ++ [y]))) else Pv D (i + 1) H3)
    (q : ∀ D H2, H D = none → Pv D xs.length H2 → Q (.ref D) H2) : CT K g tt te vs σ (.ref a) H Q :=
  ⟨a, rfl, ⟨xs, hx⟩, fun D hD => lc_it walk_tup (Pv D) (h0 D hD) (fun i H1 _ p => hG D i H1 hD p) (fun i x H1 H2 hi p y => by
    obtain ⟨rfl, e⟩ := y
    exact hs D i x H2 hD hi e p) (fun H' p => q D H' hD p)⟩
end
end ZI

set_option linter.all false
set_option maxHeartbeats 1000000
namespace M03
def isL (c : Nat) : Bool := decide (97 ≤ c) && decide (c ≤ 122)
def isF (c : Nat) : Bool := decide (48 ≤ c) && decide (c ≤ 57)
def isNS (c : Nat) : Bool := isL c || isF c
def toldL : List (List Nat) := [[112, 97, 114, 116], [105, 110], [111, 117, 116], [119, 105, 114, 101], [114, 101, 115, 116], [108, 101, 116], [117, 115, 101], [116, 97, 98, 108, 101], [109, 101, 109, 111, 114, 121], [105, 102], [116, 104, 101, 110], [101, 108, 115, 101], [99, 117, 116], [106, 111, 105, 110], [102, 105, 108, 108]]
def marks1 : List Nat := [58, 44, 46, 61, 60, 38, 124, 94, 43, 45, 126, 40, 41, 91, 93]
def marksL : List (List Nat) := [[58], [44], [46], [61], [61, 61], [60], [38], [124], [94], [43], [45], [126], [40], [41], [91], [93]]
inductive Wd where
  | told (l : List Nat) | mark (l : List Nat) | name (l : List Nat) | num (l : List Nat)
  deriving DecidableEq
def badNum (a : List Nat) : Prop := a.length > 20 ∨ (a.head? = some 48 ∧ a ≠ [48])
instance (a : List Nat) : Decidable (badNum a) := inferInstanceAs (Decidable (_ ∨ _))
def runW (a : List Nat) : Option Wd :=
  if a ∈ toldL then some (.told a)
  else if a.all isF = true then (if badNum a then none else some (.num a))
  else if isF (a.headD 0) = true ∨ a.length > 8 then none else some (.name a)
inductive Step where
  | stop | bad | skip (r : List Nat) | word (w : Wd) (r : List Nat)
def step : List Nat → Step
  | [] => .stop
  | c :: r =>
    if c = 35 then .stop else if c = 32 then .skip r
    else if (c :: r).takeWhile isNS ≠ [] then (match runW ((c :: r).takeWhile isNS) with
      | none => .bad
      | some w => .word w ((c :: r).drop ((c :: r).takeWhile isNS).length))
    else if c = 61 ∧ r.head? = some 61 then .word (.mark [61, 61]) (r.drop 1)
    else if c ∈ marks1 then .word (.mark [c]) r else .bad
theorem step_less : ∀ l r, (step l = .skip r ∨ ∃ w, step l = .word w r) → r.length < l.length
  | [], r, h => by rcases h with h | ⟨w, h⟩ <;> cases h
  | c :: t, r, h => by
    rw [step] at h
    by_cases h1 : c = 35
    · rw [if_pos h1] at h
      rcases h with h | ⟨w, h⟩ <;> cases h
    rw [if_neg h1] at h
    by_cases h2 : c = 32
    · rw [if_pos h2] at h
      rcases h with h | ⟨w, h⟩ <;> cases h
      simp
    rw [if_neg h2] at h
    by_cases h3 : (c :: t).takeWhile isNS ≠ []
    · rw [if_pos h3] at h
      have hl : 0 < ((c :: t).takeWhile isNS).length := List.length_pos_iff.mpr h3
      cases hw : runW ((c :: t).takeWhile isNS) with
      | none =>
        rw [hw] at h
        rcases h with h | ⟨w, h⟩ <;> cases h
      | some w =>
        rw [hw] at h
        rcases h with h | ⟨w', h⟩ <;> cases h
        rw [List.length_drop, List.length_cons]
        omega
    rw [if_neg h3] at h
    by_cases h4 : c = 61 ∧ t.head? = some 61
    · rw [if_pos h4] at h
      rcases h with h | ⟨w', h⟩ <;> cases h
      rw [List.length_drop, List.length_cons]
      omega
    rw [if_neg h4] at h
    by_cases h5 : c ∈ marks1
    · rw [if_pos h5] at h
      rcases h with h | ⟨w', h⟩ <;> cases h
      simp
    · rw [if_neg h5] at h
      rcases h with h | ⟨w', h⟩ <;> cases h
def words (l : List Nat) : Option (List Wd) :=
  match h : step l with
  | .stop => some []
  | .bad => none
  | .skip r => words r
  | .word w r => (words r).map (w :: ·)
termination_by l.length
decreasing_by
  · exact step_less l r (.inl h)
  · exact step_less l r (.inr ⟨w, h⟩)
theorem words_stop {l : List Nat} (h : step l = .stop) : words l = some [] := by
  rw [words]
  split <;> simp_all
theorem words_bad {l : List Nat} (h : step l = .bad) : words l = none := by
  rw [words]
  split <;> simp_all
theorem words_skip {l r : List Nat} (h : step l = .skip r) : words l = words r := by
  rw [words]
  split <;> simp_all
theorem words_word {l r : List Nat} {w : Wd} (h : step l = .word w r) : words l = (words r).map (w :: ·) := by
  rw [words]
  split <;> simp_all
/-- behind a # nothing counts -/
theorem tw_app {pre post : List Nat} : (pre ++ 35 :: post).takeWhile isNS = pre.takeWhile isNS := by
  induction pre with
  | nil => rfl
  | cons c r ih =>
    rw [List.cons_append, List.takeWhile_cons, List.takeWhile_cons, ih]
theorem tw_le (l : List Nat) : (l.takeWhile isNS).length ≤ l.length := by
  induction l with
  | nil => simp
  | cons c r ih =>
    rw [List.takeWhile_cons]
    split <;> simp <;> omega
theorem words_cut (post : List Nat) : ∀ (n : Nat) (pre : List Nat), pre.length ≤ n → 35 ∉ pre → words (pre ++ 35 :: post) = words pre
  | n, [], _, _ => by
    rw [words_stop (l := [] ++ 35 :: post) rfl, words_stop (l := []) rfl]
  | 0, c :: r, h, _ => by simp at h
  | n + 1, c :: r, h, hn => by
    have hc : c ≠ 35 := fun z => hn (by rw [z]; simp)
    have hr : 35 ∉ r := fun z => hn (List.mem_cons_of_mem _ z)
    have hl : r.length ≤ n := by simpa using h
    have tw := tw_app (pre := c :: r) (post := post)
    rw [List.cons_append] at tw
    rw [List.cons_append]
    by_cases h2 : c = 32
    · have s1 : step (c :: (r ++ 35 :: post)) = .skip (r ++ 35 :: post) := by rw [step, if_neg hc, if_pos h2]
      have s2 : step (c :: r) = .skip r := by rw [step, if_neg hc, if_pos h2]
      rw [words_skip s1, words_skip s2, words_cut post n r hl hr]
    by_cases h3 : (c :: r).takeWhile isNS ≠ []
    · have hp : 0 < ((c :: r).takeWhile isNS).length := List.length_pos_iff.mpr h3
      cases hw : runW ((c :: r).takeWhile isNS) with
      | none =>
        have s1 : step (c :: (r ++ 35 :: post)) = .bad := by rw [step, if_neg hc, if_neg h2, tw, if_pos h3, hw]
        have s2 : step (c :: r) = .bad := by rw [step, if_neg hc, if_neg h2, if_pos h3, hw]
        rw [words_bad s1, words_bad s2]
      | some w =>
        have s1 : step (c :: (r ++ 35 :: post)) = .word w ((c :: (r ++ 35 :: post)).drop ((c :: r).takeWhile isNS).length) := by rw [step, if_neg hc, if_neg h2, tw, if_pos h3, hw]
        have s2 : step (c :: r) = .word w ((c :: r).drop ((c :: r).takeWhile isNS).length) := by rw [step, if_neg hc, if_neg h2, if_pos h3, hw]
        have dl := tw_le (c :: r)
        have d1 : (c :: (r ++ 35 :: post)).drop ((c :: r).takeWhile isNS).length = (c :: r).drop ((c :: r).takeWhile isNS).length ++ 35 :: post := by
          rw [← List.cons_append, List.drop_append_of_le_length dl]
        rw [words_word s1, words_word s2, d1, words_cut post n _ (by rw [List.length_drop, List.length_cons]; omega) fun z => hn (List.mem_of_mem_drop z)]
    by_cases h4 : c = 61 ∧ r.head? = some 61
    · obtain ⟨h41, h42⟩ := h4
      cases r with
      | nil => cases h42
      | cons d r =>
        have s1 : step (c :: (d :: r ++ 35 :: post)) = .word (.mark [61, 61]) (r ++ 35 :: post) := by
          rw [step, if_neg hc, if_neg h2, tw, if_neg h3, if_pos ⟨h41, h42⟩] <;> rfl
        have s2 : step (c :: d :: r) = .word (.mark [61, 61]) r := by
          rw [step, if_neg hc, if_neg h2, if_neg h3, if_pos ⟨h41, h42⟩] <;> rfl
        rw [words_word s1, words_word s2, words_cut post n r (by simp at hl; omega) fun z => hr (List.mem_cons_of_mem _ z)]
    have h4' : ¬ (c = 61 ∧ (r ++ 35 :: post).head? = some 61) := fun z => h4 ⟨z.1, by
      cases r with
      | nil => exact absurd (Option.some.inj z.2) (by decide)
      | cons d r => exact z.2⟩
    by_cases h5 : c ∈ marks1
    · have s1 : step (c :: (r ++ 35 :: post)) = .word (.mark [c]) (r ++ 35 :: post) := by rw [step, if_neg hc, if_neg h2, tw, if_neg h3, if_neg h4', if_pos h5]
      have s2 : step (c :: r) = .word (.mark [c]) r := by rw [step, if_neg hc, if_neg h2, if_neg h3, if_neg h4, if_pos h5]
      rw [words_word s1, words_word s2, words_cut post n r hl hr]
    · have s1 : step (c :: (r ++ 35 :: post)) = .bad := by rw [step, if_neg hc, if_neg h2, tw, if_neg h3, if_neg h4', if_neg h5]
      have s2 : step (c :: r) = .bad := by rw [step, if_neg hc, if_neg h2, if_neg h3, if_neg h4, if_neg h5]
      rw [words_bad s1, words_bad s2]
/-- what the program tells of one word's text -/
def nameOk (a : List Nat) : Bool := decide (1 ≤ a.length) && decide (a.length ≤ 8) && isL (a.headD 0) && !decide (a ∈ toldL) && a.all isNS
def numOk (a : List Nat) : Bool := !decide (badNum a) && a.all isF
def wordBy (a : List Nat) : Option Wd :=
  if a ∈ toldL then some (.told a) else if a ∈ marksL then some (.mark a) else if nameOk a = true then some (.name a) else if numOk a = true then some (.num a) else none
theorem ns_not_mark {a : List Nat} (h : a ≠ []) (hn : a.all isNS = true) : a ∉ marksL := fun z => by
  have : ∀ m ∈ marksL, m.all isNS = false := by decide
  rw [this a z] at hn
  cases hn
theorem f_not_l {c : Nat} (h : isF c = true) : isL c = false := by
  unfold isF isL at *
  simp at *
  omega
theorem run_by {a : List Nat} (h : a ≠ []) (hn : a.all isNS = true) : wordBy a = runW a := by
  unfold wordBy runW
  by_cases h1 : a ∈ toldL
  · rw [if_pos h1, if_pos h1]
  rw [if_neg h1, if_neg h1, if_neg (ns_not_mark h hn)]
  obtain ⟨c, r, rfl⟩ : ∃ c r, a = c :: r := by
    cases a with
    | nil => exact absurd rfl h
    | cons c r => exact ⟨c, r, rfl⟩
  have hc : isNS c = true := List.all_eq_true.mp hn c (by simp)
  by_cases h2 : (c :: r).all isF = true
  · have fc : isF c = true := List.all_eq_true.mp h2 c (by simp)
    have n1 : nameOk (c :: r) = false := by
      unfold nameOk
      rw [show isL ((c :: r).headD 0) = false from f_not_l fc]
      simp
    rw [if_pos h2, n1, if_neg Bool.false_ne_true]
    unfold numOk
    rw [h2, Bool.and_true]
    by_cases h3 : badNum (c :: r)
    · rw [if_pos h3, decide_eq_true h3, if_neg (by decide)]
    · rw [if_neg h3, decide_eq_false h3, if_pos (by decide)]
  · have f2 : (c :: r).all isF = false := Bool.eq_false_iff.mpr h2
    rw [if_neg h2]
    have n2 : numOk (c :: r) = false := by
      unfold numOk
      rw [f2, Bool.and_false]
    rw [n2, if_neg (show ¬ false = true by decide)]
    by_cases h4 : isF c = true
    · have A : nameOk (c :: r) = false := by
        unfold nameOk
        rw [show isL ((c :: r).headD 0) = false from f_not_l h4]
        simp
      have B : isF ((c :: r).headD 0) = true ∨ (c :: r).length > 8 := Or.inl h4
      rw [A, if_neg Bool.false_ne_true, if_pos B]
    · have lc : isL c = true := by
        unfold isNS at hc
        rw [Bool.eq_false_iff.mpr h4, Bool.or_false] at hc
        exact hc
      by_cases h5 : (c :: r).length > 8
      · have A : nameOk (c :: r) = false := by
          unfold nameOk
          rw [decide_eq_false (show ¬ (c :: r).length ≤ 8 by omega)]
          simp
        have B : isF ((c :: r).headD 0) = true ∨ (c :: r).length > 8 := Or.inr h5
        rw [A, if_neg Bool.false_ne_true, if_pos B]
      · have A : nameOk (c :: r) = true := by
          unfold nameOk
          rw [decide_eq_true (show (c :: r).length ≤ 8 by omega), decide_eq_true (show 1 ≤ (c :: r).length by simp), show isL ((c :: r).headD 0) = true from lc, decide_eq_false h1, hn] <;> rfl
        have B : ¬ (isF ((c :: r).headD 0) = true ∨ (c :: r).length > 8) := fun z => Or.elim z h4 h5
        rw [A, if_pos rfl, if_neg B]
theorem one_by {c : Nat} (h : isNS c = false) : wordBy [c] = if c ∈ marks1 then some (.mark [c]) else none := by
  have t1 : [c] ∉ toldL := fun z => by
    have : ∀ m ∈ toldL, m.length ≠ 1 := by decide
    exact this [c] z rfl
  unfold wordBy
  rw [if_neg t1]
  have mm : [c] ∈ marksL ↔ c ∈ marks1 := by
    unfold marksL marks1
    simp
  have l0 : isL c = false := by
    unfold isNS at h
    exact (Bool.or_eq_false_iff.mp h).1
  have f0 : isF c = false := by
    unfold isNS at h
    exact (Bool.or_eq_false_iff.mp h).2
  by_cases h2 : c ∈ marks1
  · rw [if_pos (mm.mpr h2), if_pos h2]
  · rw [if_neg (fun z => h2 (mm.mp z)), if_neg h2]
    have n1 : nameOk [c] = false := by
      unfold nameOk
      rw [show isL ([c].headD 0) = false from l0]
      simp
    have n2 : numOk [c] = false := by
      unfold numOk
      rw [show [c].all isF = false by simp [f0], Bool.and_false]
    rw [n1, n2]
    simp
/-- a text is one name -/
theorem wlen : ∀ (n : Nat) (l : List Nat), l.length ≤ n → ∀ ws a, words l = some ws → Wd.name a ∈ ws → a.length ≤ l.length
  | n, [], _, ws, a, h, ha => by
    rw [words_stop rfl] at h
    cases h
    simp at ha
  | 0, c :: r, h, _, _, _, _ => by simp at h
  | n + 1, c :: r, hl, ws, a, h, ha => by
    cases hs : step (c :: r) with
    | stop =>
      rw [words_stop hs] at h
      cases h
      simp at ha
    | bad =>
      rw [words_bad hs] at h
      cases h
    | skip t =>
      rw [words_skip hs] at h
      have := step_less _ _ (.inl hs)
      have := wlen n t (by simp at *; omega) ws a h ha
      omega
    | word w t =>
      rw [words_word hs] at h
      have ls := step_less _ _ (.inr ⟨w, hs⟩)
      cases ht : words t with
      | none =>
        rw [ht] at h
        cases h
      | some us =>
        rw [ht] at h
        cases h
        rcases List.mem_cons.mp ha with e | e
        · subst e
          rw [step] at hs
          by_cases h1 : c = 35
          · rw [if_pos h1] at hs
            cases hs
          rw [if_neg h1] at hs
          by_cases h2 : c = 32
          · rw [if_pos h2] at hs
            cases hs
          rw [if_neg h2] at hs
          by_cases h3 : (c :: r).takeWhile isNS ≠ []
          · rw [if_pos h3] at hs
            cases hw : runW ((c :: r).takeWhile isNS) with
            | none =>
              rw [hw] at hs
              cases hs
            | some w =>
              rw [hw] at hs
              cases hs
              have : a = (c :: r).takeWhile isNS := by
                unfold runW at hw
                split at hw
                · cases hw
                · split at hw
                  · split at hw <;> cases hw
                  · split at hw
                    · cases hw
                    · cases hw
                      rfl
              rw [this]
              exact tw_le _
          rw [if_neg h3] at hs
          split at hs
          · cases hs
          · split at hs <;> cases hs
        · have := wlen n t (by simp at *; omega) us a ht e
          omega
theorem tw_all {l : List Nat} (h : l.all isNS = true) : l.takeWhile isNS = l := by
  induction l with
  | nil => rfl
  | cons c r ih =>
    have h' := Bool.and_eq_true_iff.mp (show (isNS c && r.all isNS) = true from h)
    rw [List.takeWhile_cons, if_pos h'.1, ih h'.2]
theorem tw_ns (l : List Nat) : (l.takeWhile isNS).all isNS = true := by
  induction l with
  | nil => rfl
  | cons c r ih =>
    rw [List.takeWhile_cons]
    split
    · rename_i h
      show (isNS c && (r.takeWhile isNS).all isNS) = true
      rw [h, ih] <;> rfl
    · rfl
theorem name_iff (l : List Nat) : words l = some [.name l] ↔ nameOk l = true := by
  constructor
  · intro h
    cases l with
    | nil =>
      rw [words_stop rfl] at h
      cases h
    | cons c r =>
      cases hs : step (c :: r) with
      | stop =>
        rw [words_stop hs] at h
        cases h
      | bad =>
        rw [words_bad hs] at h
        cases h
      | skip t =>
        rw [words_skip hs] at h
        have l1 := step_less _ _ (.inl hs)
        have l2 := wlen t.length t (Nat.le_refl _) _ (c :: r) h (by simp)
        omega
      | word w t =>
        rw [words_word hs] at h
        have l1 := step_less _ _ (.inr ⟨w, hs⟩)
        cases ht : words t with
        | none =>
          rw [ht] at h
          cases h
        | some us =>
          rw [ht] at h
          have h := Option.some.inj h
          injection h with h1 h2
          subst h1
          rw [step] at hs
          by_cases h1 : c = 35
          · rw [if_pos h1] at hs
            cases hs
          rw [if_neg h1] at hs
          by_cases h2 : c = 32
          · rw [if_pos h2] at hs
            cases hs
          rw [if_neg h2] at hs
          by_cases h3 : (c :: r).takeWhile isNS ≠ []
          · rw [if_pos h3] at hs
            cases hw : runW ((c :: r).takeWhile isNS) with
            | none =>
              rw [hw] at hs
              cases hs
            | some w =>
              rw [hw] at hs
              have hs1 : w = .name (c :: r) := by injection hs
              subst hs1
              have hr := run_by h3 (tw_ns _)
              rw [hw] at hr
              unfold wordBy at hr
              split at hr
              · cases hr
              · split at hr
                · cases hr
                · split at hr
                  · rename_i hn
                    have e : (c :: r).takeWhile isNS = c :: r := by
                      have := Option.some.inj hr
                      injection this
                    rw [e] at hn
                    exact hn
                  · split at hr <;> cases hr
          rw [if_neg h3] at hs
          split at hs
          · cases hs
          · split at hs <;> cases hs
  · intro h
    have hk := h
    unfold nameOk at hk
    simp only [Bool.and_eq_true, decide_eq_true_eq, Bool.not_eq_true', decide_eq_false_iff_not] at hk
    obtain ⟨⟨⟨⟨h1, h2⟩, h3⟩, h4⟩, h5⟩ := hk
    cases l with
    | nil => simp at h1
    | cons c r =>
      have h3' : isL c = true := h3
      have c1 : c ≠ 35 ∧ c ≠ 32 := by
        unfold isL at h3'
        simp at h3'
        omega
      have tw := tw_all h5
      have hw : runW (c :: r) = some (.name (c :: r)) := by
        rw [← run_by (by simp) h5]
        unfold wordBy
        rw [if_neg h4, if_neg (ns_not_mark (by simp) h5), if_pos h]
      have s1 : step (c :: r) = .word (.name (c :: r)) [] := by
        rw [step, if_neg c1.1, if_neg c1.2, tw, if_pos (by simp), hw]
        simp
      rw [words_word s1, words_stop (l := []) rfl] <;> rfl
end M03

set_option linter.all false
set_option maxHeartbeats 1000000
namespace M01
def bitsN : Nat → Nat → List Nat
  | 0, _ => []
  | n + 1, w => (w % 2) :: bitsN n (w / 2)
def numN : List Nat → Nat
  | [] => 0
  | b :: r => b + 2 * numN r
theorem pow_s (n : Nat) : 2 ^ (n + 1) = 2 * 2 ^ n := by rw [Nat.pow_succ, Nat.mul_comm]
theorem mod_s (x n : Nat) : x % 2 ^ (n + 1) = x % 2 + 2 * (x / 2 % 2 ^ n) := by rw [pow_s, Nat.mod_mul]
theorem bits_len : ∀ n w, (bitsN n w).length = n
  | 0, _ => rfl
  | n + 1, w => by rw [bitsN, List.length_cons, bits_len n]
theorem num_bits : ∀ n w, numN (bitsN n w) = w % 2 ^ n
  | 0, w => by rw [bitsN, numN, Nat.pow_zero, Nat.mod_one]
  | n + 1, w => by rw [bitsN, numN, num_bits n, mod_s]
theorem bits_lt : ∀ n w, ∀ b ∈ bitsN n w, b < 2
  | 0, _, b, h => by simp [bitsN] at h
  | n + 1, w, b, h => by
    rw [bitsN, List.mem_cons] at h
    rcases h with rfl | h
    · exact Nat.mod_lt _ (by decide)
    · exact bits_lt n _ b h
theorem num_app : ∀ (xs ys : List Nat), numN (xs ++ ys) = numN xs + 2 ^ xs.length * numN ys
  | [], ys => by simp [numN]
  | x :: xs, ys => by
    rw [List.cons_append, numN, numN, num_app xs, List.length_cons, pow_s, Nat.mul_add, Nat.mul_assoc, Nat.add_assoc]
theorem bits_inj {n a b : Nat} (ha : a < 2 ^ n) (hb : b < 2 ^ n) (h : bitsN n a = bitsN n b) : a = b := by
  have e := congrArg numN h
  rw [num_bits, num_bits, Nat.mod_eq_of_lt ha, Nat.mod_eq_of_lt hb] at e
  exact e
/-- sign by sign -/
theorem zip_num (f : Nat → Nat → Nat) (g : Nat → Nat → Nat) (h2 : ∀ a b, g a b / 2 = g (a / 2) (b / 2)) (h1 : ∀ a b, g a b % 2 = f (a % 2) (b % 2)) :
    ∀ n a b, numN (List.zipWith f (bitsN n a) (bitsN n b)) = g a b % 2 ^ n
  | 0, a, b => by rw [bitsN, bitsN, List.zipWith_nil_left, numN, Nat.pow_zero, Nat.mod_one]
  | n + 1, a, b => by rw [bitsN, bitsN, List.zipWith_cons_cons, numN, zip_num f g h2 h1 n, mod_s, h2, h1]
theorem lt2 {f : Nat → Nat → Nat} {g : Nat → Nat → Nat} (h : ∀ i, i < 2 → ∀ j, j < 2 → g i j = f i j) (a b : Nat) : g (a % 2) (b % 2) = f (a % 2) (b % 2) := h _ (Nat.mod_lt _ (by decide)) _ (Nat.mod_lt _ (by decide))
theorem and2 (a b : Nat) : (a &&& b) % 2 = a % 2 * (b % 2) := by
  have e : (a &&& b) % 2 = (a % 2 &&& b % 2) := by
    have := Nat.and_mod_two_pow (a := a) (b := b) (n := 1)
    simpa using this
  rw [e]
  exact lt2 (f := fun i j => i * j) (g := fun i j => i &&& j) (by decide) a b
theorem or2 (a b : Nat) : (a ||| b) % 2 = max (a % 2) (b % 2) := by
  have e : (a ||| b) % 2 = (a % 2 ||| b % 2) := by
    have := Nat.or_mod_two_pow (a := a) (b := b) (n := 1)
    simpa using this
  rw [e]
  exact lt2 (f := fun i j => max i j) (g := fun i j => i ||| j) (by decide) a b
theorem xor2 (a b : Nat) : (a ^^^ b) % 2 = (a % 2 + b % 2) % 2 := by
  have e : (a ^^^ b) % 2 = (a % 2 ^^^ b % 2) := by
    have := Nat.xor_mod_two_pow (a := a) (b := b) (n := 1)
    simpa using this
  rw [e]
  exact lt2 (f := fun i j => (i + j) % 2) (g := fun i j => i ^^^ j) (by decide) a b
theorem num_and (n a b : Nat) : numN (List.zipWith (fun i j => i * j) (bitsN n a) (bitsN n b)) = (a &&& b) % 2 ^ n := zip_num _ (fun a b => a &&& b) (fun a b => Nat.and_div_two) and2 n a b
theorem num_or (n a b : Nat) : numN (List.zipWith (fun i j => max i j) (bitsN n a) (bitsN n b)) = (a ||| b) % 2 ^ n := zip_num _ (fun a b => a ||| b) (fun a b => Nat.or_div_two) or2 n a b
theorem num_xor (n a b : Nat) : numN (List.zipWith (fun i j => (i + j) % 2) (bitsN n a) (bitsN n b)) = (a ^^^ b) % 2 ^ n := zip_num _ (fun a b => a ^^^ b) (fun a b => Nat.xor_div_two) xor2 n a b
/-- what goes over -/
def sumN : Nat → List Nat → List Nat → List Nat
  | c, x :: xs, y :: ys => ((x + y + c) % 2) :: sumN ((x + y + c) / 2) xs ys
  | _, _, _ => []
theorem num_sum : ∀ n a b c, numN (sumN c (bitsN n a) (bitsN n b)) = (a + b + c) % 2 ^ n
  | 0, a, b, c => by rw [bitsN, bitsN, sumN, numN, Nat.pow_zero, Nat.mod_one] <;> simp
  | n + 1, a, b, c => by
    rw [bitsN, bitsN, sumN, numN, num_sum n, mod_s]
    have e1 : (a + b + c) % 2 = (a % 2 + b % 2 + c) % 2 := by omega
    have e2 : (a + b + c) / 2 = a / 2 + b / 2 + (a % 2 + b % 2 + c) / 2 := by omega
    rw [e1, e2]
theorem flip_bits : ∀ n b, (bitsN n b).map (fun x => 1 - x) = bitsN n (2 ^ n - 1 - b % 2 ^ n)
  | 0, _ => rfl
  | n + 1, b => by
    have h := mod_s b n
    have p := pow_s n
    have q : b / 2 % 2 ^ n < 2 ^ n := Nat.mod_lt _ (Nat.two_pow_pos n)
    rw [bitsN, bitsN, List.map_cons, flip_bits n]
    have e1 : 1 - b % 2 = (2 ^ (n + 1) - 1 - b % 2 ^ (n + 1)) % 2 := by omega
    have e2 : 2 ^ n - 1 - b / 2 % 2 ^ n = (2 ^ (n + 1) - 1 - b % 2 ^ (n + 1)) / 2 := by omega
    rw [e1, e2]
theorem num_sub (n a b : Nat) (hb : b < 2 ^ n) : numN (sumN 1 (bitsN n a) ((bitsN n b).map fun x => 1 - x)) = (a + (2 ^ n - b)) % 2 ^ n := by
  rw [flip_bits, num_sum, Nat.mod_eq_of_lt hb]
  congr 1
  omega
theorem num_flip (n a : Nat) (ha : a < 2 ^ n) : numN ((bitsN n a).map fun x => 1 - x) = 2 ^ n - 1 - a := by
  rw [flip_bits, num_bits, Nat.mod_eq_of_lt ha, Nat.mod_eq_of_lt (by omega)]
/-- the top bit -/
theorem bits_top : ∀ n w, bitsN (n + 1) w = bitsN n w ++ [w / 2 ^ n % 2]
  | 0, w => by simp [bitsN]
  | n + 1, w => by
    rw [bitsN, bits_top n, bitsN, List.cons_append, Nat.div_div_eq_div_mul, pow_s]
def fd : List (Nat × Nat) → Nat
  | [] => 0
  | p :: t => if p.1 = p.2 then fd t else if p.1 < p.2 then 1 else 0
theorem fd_bits : ∀ n a b, fd (List.zip (bitsN n a).reverse (bitsN n b).reverse) = if a % 2 ^ n < b % 2 ^ n then 1 else 0
  | 0, a, b => by simp [bitsN, fd, Nat.mod_one]
  | n + 1, a, b => by
    rw [bits_top, bits_top, List.reverse_append, List.reverse_append]
    show fd ((a / 2 ^ n % 2, b / 2 ^ n % 2) :: List.zip (bitsN n a).reverse (bitsN n b).reverse) = _
    have ea : a % 2 ^ (n + 1) = a % 2 ^ n + 2 ^ n * (a / 2 ^ n % 2) := by rw [Nat.pow_succ, Nat.mod_mul]
    have eb : b % 2 ^ (n + 1) = b % 2 ^ n + 2 ^ n * (b / 2 ^ n % 2) := by rw [Nat.pow_succ, Nat.mod_mul]
    have la : a % 2 ^ n < 2 ^ n := Nat.mod_lt _ (Nat.two_pow_pos n)
    have lb : b % 2 ^ n < 2 ^ n := Nat.mod_lt _ (Nat.two_pow_pos n)
    have ta := Nat.mod_two_eq_zero_or_one (a / 2 ^ n)
    have tb := Nat.mod_two_eq_zero_or_one (b / 2 ^ n)
    rw [fd, fd_bits n, ea, eb]
    rcases ta with ta | ta <;> rcases tb with tb | tb <;> rw [ta, tb] <;> simp
    · omega
    · omega
theorem bits_drop : ∀ k n w, (bitsN n w).drop k = bitsN (n - k) (w / 2 ^ k)
  | 0, n, w => by simp
  | k + 1, 0, w => by simp [bitsN]
  | k + 1, n + 1, w => by
    rw [bitsN, List.drop_succ_cons, bits_drop k n, Nat.div_div_eq_div_mul, pow_s, Nat.add_sub_add_right]
theorem bits_take : ∀ k n w, (bitsN n w).take k = bitsN (min k n) w
  | 0, n, w => by simp [bitsN]
  | k + 1, 0, w => by simp [bitsN]
  | k + 1, n + 1, w => by
    rw [bitsN, List.take_succ_cons, bits_take k n, Nat.add_min_add_right, bitsN]
theorem num_cut (n a low many : Nat) (ha : a < 2 ^ n) : numN (((bitsN n a).drop low).take many) = a / 2 ^ low % 2 ^ many := by
  rw [bits_drop, bits_take, num_bits]
  by_cases h : many ≤ n - low
  · rw [Nat.min_eq_left h]
  · have h2 : n - low ≤ many := by omega
    rw [Nat.min_eq_right h2]
    have l1 : a / 2 ^ low < 2 ^ (n - low) := by
      by_cases hl : low ≤ n
      · rw [Nat.div_lt_iff_lt_mul (Nat.two_pow_pos low), ← Nat.pow_add]
        rw [show n - low + low = n by omega]
        exact ha
      · have : a < 2 ^ low := Nat.lt_of_lt_of_le ha (Nat.pow_le_pow_right (by decide) (by omega))
        rw [Nat.div_eq_of_lt this]
        exact Nat.two_pow_pos _
    rw [Nat.mod_eq_of_lt l1, Nat.mod_eq_of_lt (Nat.lt_of_lt_of_le l1 (Nat.pow_le_pow_right (by decide) h2))]
theorem num_ones (n : Nat) : numN (List.replicate n 1) = 2 ^ n - 1 := by
  induction n with
  | zero => rfl
  | succ n ih =>
    have p := Nat.two_pow_pos n
    rw [List.replicate_succ, numN, ih, pow_s]
    omega
end M01

set_option Elab.async false
set_option linter.all false
set_option maxRecDepth 100000
set_option maxHeartbeats 4000000
/-! M17: yards as data: widths, terms, rows, parts; values made of tuples alone. -/
namespace Y
open PySem PySem.Spec PyProof.Rows L2 Z
open Evl (Ex ex_l ex_t sq_of st_of fresh_back)
/-! ### values made of ints, texts and tuples -/
mutual
inductive Tu (H : Hp) : V → PyData → Prop
  | int (i : Int) : Tu H (.int i) (.int i)
  | str (x : Str) : Tu H (.str x) (.str x)
  | tup {a : Addr} {vs : List V} {ds : List PyData} : H a = some (.tup vs) → TuAll H vs ds → Tu H (.ref a) (.tuple ds)
inductive TuAll (H : Hp) : List V → List PyData → Prop
  | nil : TuAll H [] []
  | cons {v : V} {d : PyData} {vs : List V} {ds : List PyData} : Tu H v d → TuAll H vs ds → TuAll H (v :: vs) (d :: ds)
end
/-- tuples are kept -/
def Tk (H H' : Hp) : Prop := ∀ a vs, H a = some (.tup vs) → H' a = some (.tup vs)
theorem Tk.refl {H : Hp} : Tk H H := fun _ _ h => h
theorem Tk.ex {H H' : Hp} (e : Ex H H') : Tk H H' := fun a vs h => e a _ h
theorem Tk.trans {H H1 H2 : Hp} (a : Tk H H1) (b : Tk H1 H2) : Tk H H2 := fun x vs h => b x vs (a x vs h)
theorem Tk.put {H : Hp} {p : Addr} {o u : HO} (h : H p = some u) (n : ∀ vs, u ≠ .tup vs) : Tk H (upd H p o) := fun a vs e => by
  rw [upd_ne fun z => by rw [z, h] at e; exact n vs (Option.some.inj e)]
  exact e
theorem Tk.putL {H : Hp} {p : Addr} {o : HO} {xs : List V} (h : H p = some (.lst xs)) : Tk H (upd H p o) := .put h fun _ z => by cases z
theorem Tk.but {H H' : Hp} {B : List Addr} (b : But B H H') (h : ∀ p ∈ B, ∃ xs, H p = some (.lst xs)) : Tk H H' := fun a vs e => b a _ (fun hm => by
  obtain ⟨xs, hx⟩ := h a hm
  rw [e] at hx
  cases hx) e
mutual
theorem Tu.mono {H H' : Hp} (k : Tk H H') : ∀ {v : V} {d : PyData}, Tu H v d → Tu H' v d
  | _, _, .int i => .int i
  | _, _, .str x => .str x
  | _, _, .tup h a => .tup (k _ _ h) (TuAll.mono k a)
theorem TuAll.mono {H H' : Hp} (k : Tk H H') : ∀ {vs : List V} {ds : List PyData}, TuAll H vs ds → TuAll H' vs ds
  | _, _, .nil => .nil
  | _, _, .cons a r => .cons (Tu.mono k a) (TuAll.mono k r)
end
mutual
theorem Tu.dp {K : PySem.W.Frag} {H : Hp} : ∀ {v : V} {d : PyData}, Tu H v d → Dp K H v d
  | _, _, .int i => .int i
  | _, _, .str x => .str x
  | _, _, .tup h a => .tup (st_of h) (TuAll.dp a)
theorem TuAll.dp {K : PySem.W.Frag} {H : Hp} : ∀ {vs : List V} {ds : List PyData}, TuAll H vs ds → DpAll K H vs ds
  | _, _, .nil => .nil
  | _, _, .cons a r => .cons (Tu.dp a) (TuAll.dp r)
end
theorem Tu.ex {H H' : Hp} (e : Ex H H') {v : V} {d : PyData} (h : Tu H v d) : Tu H' v d := h.mono (.ex e)
theorem TuAll.ex {H H' : Hp} (e : Ex H H') {v : List V} {d : List PyData} (h : TuAll H v d) : TuAll H' v d := h.mono (.ex e)
theorem TuAll.len {H : Hp} : ∀ {vs : List V} {ds : List PyData}, TuAll H vs ds → vs.length = ds.length
  | _, _, .nil => rfl
  | _, _, .cons _ r => by rw [List.length_cons, List.length_cons, r.len]
theorem TuAll.get {H : Hp} : ∀ {vs : List V} {ds : List PyData} {i : Nat} {v : V}, TuAll H vs ds → vs[i]? = some v → ∃ d, ds[i]? = some d ∧ Tu H v d
  | _, _, _, _, .nil, h => by simp at h
  | _, _, 0, _, .cons a _, h => by
    cases h
    exact ⟨_, rfl, a⟩
  | _, _, i + 1, _, .cons _ r, h => TuAll.get (i := i) r h
theorem TuAll.getD {H : Hp} : ∀ {vs : List V} {ds : List PyData} {i : Nat} {d : PyData}, TuAll H vs ds → ds[i]? = some d → ∃ v, vs[i]? = some v ∧ Tu H v d
  | _, _, _, _, .nil, h => by simp at h
  | _, _, 0, _, .cons a _, h => by
    cases h
    exact ⟨_, rfl, a⟩
  | _, _, i + 1, _, .cons _ r, h => TuAll.getD (i := i) r h
theorem TuAll.app {H : Hp} : ∀ {vs us : List V} {ds es : List PyData}, TuAll H vs ds → TuAll H us es → TuAll H (vs ++ us) (ds ++ es)
  | _, _, _, _, .nil, b => b
  | _, _, _, _, .cons a r, b => .cons a (r.app b)
theorem TuAll.drop {H : Hp} : ∀ (n : Nat) {vs : List V} {ds : List PyData}, TuAll H vs ds → TuAll H (vs.drop n) (ds.drop n)
  | 0, _, _, h => h
  | _ + 1, _, _, .nil => .nil
  | n + 1, _, _, .cons _ r => r.drop n
theorem TuAll.take {H : Hp} : ∀ (n : Nat) {vs : List V} {ds : List PyData}, TuAll H vs ds → TuAll H (vs.take n) (ds.take n)
  | 0, _, _, _ => .nil
  | _ + 1, _, _, .nil => .nil
  | n + 1, _, _, .cons a r => .cons a (r.take n)
theorem TuAll.rev {H : Hp} : ∀ {vs : List V} {ds : List PyData}, TuAll H vs ds → TuAll H vs.reverse ds.reverse
  | _, _, .nil => .nil
  | _, _, .cons a r => by
    rw [List.reverse_cons, List.reverse_cons]
    exact r.rev.app (.cons a .nil)
theorem TuAll.strs {H : Hp} : ∀ zs : List Str, TuAll H (zs.map V.str) (zs.map PyData.str)
  | [] => .nil
  | z :: zs => .cons (.str z) (TuAll.strs zs)
theorem TuAll.ints {H : Hp} : ∀ zs : List Int, TuAll H (zs.map V.int) (zs.map PyData.int)
  | [] => .nil
  | z :: zs => .cons (.int z) (TuAll.ints zs)
theorem tu_str {H : Hp} {v : V} {x : Str} (h : Tu H v (.str x)) : v = .str x := by
  cases h
  rfl
theorem tu_int {H : Hp} {v : V} {x : Int} (h : Tu H v (.int x)) : v = .int x := by
  cases h
  rfl
theorem tu_tup {H : Hp} {v : V} {ds : List PyData} (h : Tu H v (.tuple ds)) : ∃ a vs, v = .ref a ∧ H a = some (.tup vs) ∧ TuAll H vs ds := by
  cases h with
  | tup h a => exact ⟨_, _, rfl, h, a⟩
theorem ta_strs {H : Hp} : ∀ {zs : List Str} {vs : List V}, TuAll H vs (zs.map PyData.str) → vs = zs.map V.str
  | [], _, h => by
    cases h
    rfl
  | z :: zs, _, h => by
    cases h with
    | cons a r =>
      cases a
      rw [ta_strs r] <;> rfl
theorem ta_ints {H : Hp} : ∀ {zs : List Int} {vs : List V}, TuAll H vs (zs.map PyData.int) → vs = zs.map V.int
  | [], _, h => by
    cases h
    rfl
  | z :: zs, _, h => by
    cases h with
    | cons a r =>
      cases a
      rw [ta_ints r] <;> rfl
/-- a tuple of two, by its parts -/
theorem tu2 {H : Hp} {v : V} {d e : PyData} (h : Tu H v (.tuple [d, e])) : ∃ a x y, v = .ref a ∧ H a = some (.tup [x, y]) ∧ Tu H x d ∧ Tu H y e := by
  obtain ⟨a, vs, rfl, ha, t⟩ := tu_tup h
  cases t with
  | cons t1 r => cases r with
    | cons t2 r => cases r with
      | nil => exact ⟨a, _, _, rfl, ha, t1, t2⟩
theorem tu3 {H : Hp} {v : V} {d e f : PyData} (h : Tu H v (.tuple [d, e, f])) : ∃ a x y z, v = .ref a ∧ H a = some (.tup [x, y, z]) ∧ Tu H x d ∧ Tu H y e ∧ Tu H z f := by
  obtain ⟨a, vs, rfl, ha, t⟩ := tu_tup h
  cases t with
  | cons t1 r => cases r with
    | cons t2 r => cases r with
      | cons t3 r => cases r with
        | nil => exact ⟨a, _, _, _, rfl, ha, t1, t2, t3⟩
theorem tu4 {H : Hp} {v : V} {d e f g : PyData} (h : Tu H v (.tuple [d, e, f, g])) : ∃ a x y z u, v = .ref a ∧ H a = some (.tup [x, y, z, u]) ∧ Tu H x d ∧ Tu H y e ∧ Tu H z f ∧ Tu H u g := by
  obtain ⟨a, vs, rfl, ha, t⟩ := tu_tup h
  cases t with
  | cons t1 r => cases r with
    | cons t2 r => cases r with
      | cons t3 r => cases r with
        | cons t4 r => cases r with
          | nil => exact ⟨a, _, _, _, _, rfl, ha, t1, t2, t3, t4⟩
theorem tu5 {H : Hp} {v : V} {d e f g h' : PyData} (h : Tu H v (.tuple [d, e, f, g, h'])) : ∃ a x y z u w, v = .ref a ∧ H a = some (.tup [x, y, z, u, w]) ∧ Tu H x d ∧ Tu H y e ∧ Tu H z f ∧ Tu H u g ∧ Tu H w h' := by
  obtain ⟨a, vs, rfl, ha, t⟩ := tu_tup h
  cases t with
  | cons t1 r => cases r with
    | cons t2 r => cases r with
      | cons t3 r => cases r with
        | cons t4 r => cases r with
          | cons t5 r => cases r with
            | nil => exact ⟨a, _, _, _, _, _, rfl, ha, t1, t2, t3, t4, t5⟩
theorem Tu.mk {H : Hp} {p : Addr} {xs : List V} {ds : List PyData} (hp : H p = none) (h : TuAll H xs ds) : Tu (upd H p (.tup xs)) (.ref p) (.tuple ds) := .tup upd_same (h.ex (Ex.new hp))
/-! ### widths, terms, rows, parts -/
abbrev Wd : Type := Str × Int
abbrev wdD (w : Wd) : PyData := .tuple [.str w.1, .int w.2]
inductive Trm where
  | num (n : Int) (w : Wd)
  | name (x : Str)
  | of_ (u d : Str)
  | at_ (s : Str) (t : Trm)
  | not_ (t : Trm)
  | two (s : Str) (a b : Trm)
  | pick (a b c : Trm)
  | cut (t : Trm) (low : Int) (w : Wd)
  | join (a b : Trm)
  | fill (t : Trm) (w : Wd)
def Trm.d : Trm → PyData
  | .num n w => .tuple [.str "number", .int n, wdD w]
  | .name x => .tuple [.str "name", .str x]
  | .of_ u d => .tuple [.str "of", .str u, .str d]
  | .at_ s t => .tuple [.str "at", .str s, t.d]
  | .not_ t => .tuple [.str "not", t.d]
  | .two s a b => .tuple [.str "two", .str s, a.d, b.d]
  | .pick a b c => .tuple [.str "pick", a.d, b.d, c.d]
  | .cut t low w => .tuple [.str "cut", t.d, .int low, wdD w]
  | .join a b => .tuple [.str "join", a.d, b.d]
  | .fill t w => .tuple [.str "fill", t.d, wdD w]
def Trm.kids : Trm → List Trm
  | .num .. | .name _ | .of_ .. => []
  | .at_ _ t | .not_ t | .cut t .. | .fill t _ => [t]
  | .two _ a b | .join a b => [a, b]
  | .pick a b c => [a, b, c]
def Trm.deep : Trm → Nat
  | .num .. | .name _ | .of_ .. => 1
  | .at_ _ t | .not_ t | .cut t .. | .fill t _ => t.deep + 1
  | .two _ a b | .join a b => max a.deep b.deep + 1
  | .pick a b c => max a.deep (max b.deep c.deep) + 1
/-- what it asks, from the left -/
def Trm.names : Trm → List Str
  | .num .. => []
  | .name x => [x]
  | .of_ u d => [u ++ Str.ofString "." ++ d]
  | .at_ _ t | .not_ t | .cut t .. | .fill t _ => t.names
  | .two _ a b | .join a b => a.names ++ b.names
  | .pick a b c => a.names ++ b.names ++ c.names
/-- a text that may be a name -/
def nmS (z : Str) : Prop := 1 ≤ z.length ∧ z.length ≤ 20 ∧ ∀ c ∈ z.cps.toList, (48 ≤ c ∧ c ≤ 57) ∨ (97 ≤ c ∧ c ≤ 122)
theorem nmS.ok {z : Str} (h : nmS z) : okT z 20 := ⟨h.2.1, fun c hc => by have := h.2.2 c hc; omega⟩
theorem nmS.ne {z : Str} (h : nmS z) : z ≠ Str.ofString "" := fun e => by
  have := h.1
  rw [e] at this
  exact absurd this (by decide)
/-- a width that may stand in a yard whose params are ps -/
def wOk (ps : List Str) (w : Wd) : Prop := (w.1 = Str.ofString "" ∧ 1 ≤ w.2 ∧ w.2 ≤ 64) ∨ (w.1 ∈ ps ∧ -64 ≤ w.2 ∧ w.2 ≤ 64)
def Trm.ok (ps : List Str) : Trm → Prop
  | .num n w => 0 ≤ n ∧ n < 2 ^ 64 ∧ wOk ps w
  | .name x => nmS x
  | .of_ u d => nmS u ∧ nmS d
  | .at_ s t => nmS s ∧ t.ok ps
  | .not_ t => t.ok ps
  | .two s a b => okT s 2 ∧ a.ok ps ∧ b.ok ps
  | .pick a b c => a.ok ps ∧ b.ok ps ∧ c.ok ps
  | .cut t low w => t.ok ps ∧ 0 ≤ low ∧ low ≤ 200 ∧ wOk ps w
  | .join a b => a.ok ps ∧ b.ok ps
  | .fill t w => t.ok ps ∧ wOk ps w
inductive Row where
  | inn (x : Str) (w : Wd)
  | out (x : Str) (w : Wd)
  | wire (x : Str) (w : Wd)
  | rest (x : Str) (w : Wd) (n : Int) (t : Trm)
  | let_ (x : Str) (t : Trm)
  | use (x q : Str) (ws : List Wd) (ts : List Trm)
  | tab (x : Str) (w : Wd) (ns : List Int)
  | mem (x : Str) (w : Wd) (size : Int) (a b c : Trm)
def Row.d : Row → PyData
  | .inn x w => .tuple [.str "in", .str x, wdD w]
  | .out x w => .tuple [.str "out", .str x, wdD w]
  | .wire x w => .tuple [.str "wire", .str x, wdD w]
  | .rest x w n t => .tuple [.str "rest", .str x, wdD w, .int n, t.d]
  | .let_ x t => .tuple [.str "let", .str x, t.d]
  | .use x q ws ts => .tuple [.str "use", .str x, .str q, .tuple (ws.map wdD), .tuple (ts.map Trm.d)]
  | .tab x w ns => .tuple [.str "table", .str x, wdD w, .tuple (ns.map PyData.int)]
  | .mem x w size a b c => .tuple [.str "memory", .str x, wdD w, .int size, a.d, b.d, c.d]
def Row.terms : Row → List Trm
  | .inn .. | .out .. | .wire .. | .tab .. => []
  | .rest _ _ _ t | .let_ _ t => [t]
  | .use _ _ _ ts => ts
  | .mem _ _ _ a b c => [a, b, c]
structure Part where
  name : Str
  params : List Str
  rows : List Row
def Part.d (p : Part) : PyData := .tuple [.str p.name, .tuple (p.params.map PyData.str), .tuple (p.rows.map Row.d)]
abbrev Yard : Type := List Part
def yardD (y : Yard) : PyData := .tuple (y.map Part.d)
end Y

set_option linter.all false
set_option maxHeartbeats 1000000
namespace M18
variable {α : Type} [DecidableEq α]
/-- where a name stands in the way, by what was noted -/
def place : List (α × Nat) → α → Option Nat
  | [], _ => none
  | (m, i) :: r, n => if m = n then some i else place r n
/-- way: the last one first; left: the top first; done: the newest first -/
structure St (α : Type) where
  way : List α
  places : List (α × Nat)
  left : List (List α)
  done : List α
inductive Out (α : Type) where
  | fin (r : Option (List α)) (d : List α) | go (s : St α)
def step (get : α → List α) (s : St α) : Out α :=
  match s.left with
  | [] => .fin none s.done
  | [] :: rest => (match s.way with
    | [] => .go ⟨[], s.places, rest, s.done⟩
    | w :: ws => .go ⟨ws, s.places, rest, w :: s.done⟩)
  | (n :: l) :: rest =>
    if n ∈ s.done then .go ⟨s.way, s.places, l :: rest, s.done⟩
    else match place s.places n with
      | some i => .fin (some (s.way.reverse.drop i)) s.done
      | none => .go ⟨n :: s.way, (n, s.way.length) :: s.places, get n :: l :: rest, s.done⟩
def wL : List (List α) → Nat
  | [] => 0
  | l :: r => 2 * l.length + 1 + wL r
def wK (get : α → List α) (p : List (α × Nat)) : List α → Nat
  | [] => 0
  | k :: r => (if place p k = none then 2 * (get k).length else 0) + wK get p r
def mu (get : α → List α) (keys : List α) (s : St α) : Nat := wL s.left + wK get s.places keys
theorem place_cons (m : α) (i : Nat) (r : List (α × Nat)) (n : α) : place ((m, i) :: r) n = if m = n then some i else place r n := rfl
theorem wK_cons (get : α → List α) (p : List (α × Nat)) (k : α) (r : List α) : wK get p (k :: r) = (if place p k = none then 2 * (get k).length else 0) + wK get p r := rfl
theorem wL_cons (l : List α) (r : List (List α)) : wL (l :: r) = 2 * l.length + 1 + wL r := rfl
theorem wK_mono (get : α → List α) (p : List (α × Nat)) (n : α) (i : Nat) : ∀ ks, wK get ((n, i) :: p) ks ≤ wK get p ks
  | [] => Nat.le_refl _
  | k :: r => by
    have ih := wK_mono get p n i r
    rw [wK_cons, wK_cons, place_cons]
    by_cases h : n = k
    · rw [if_pos h, if_neg (by simp)]
      omega
    · rw [if_neg h]
      omega
theorem wK_less (get : α → List α) (p : List (α × Nat)) (n : α) (i : Nat) (hn : place p n = none) : ∀ ks, n ∈ ks → wK get ((n, i) :: p) ks + 2 * (get n).length ≤ wK get p ks
  | [], h => by simp at h
  | k :: r, h => by
    rw [wK_cons, wK_cons, place_cons]
    by_cases e : n = k
    · subst e
      have := wK_mono get p n i r
      rw [if_pos rfl, if_neg (by simp), if_pos hn]
      omega
    · have ih := wK_less get p n i hn r (by
        rcases List.mem_cons.mp h with h | h
        · exact absurd h e
        · exact h)
      rw [if_neg e]
      omega
theorem step_less {get : α → List α} {keys : List α} (hk : ∀ n, n ∉ keys → get n = []) {s s' : St α} (h : step get s = .go s') : mu get keys s' < mu get keys s := by
  obtain ⟨way, places, left, done⟩ := s
  unfold step at h
  cases left with
  | nil => cases h
  | cons t rest =>
    cases t with
    | nil =>
      cases way with
      | nil =>
        cases h
        unfold mu
        show wL rest + _ < wL ([] :: rest) + _
        rw [wL_cons]
        show wL rest + wK get places keys < _ + wK get places keys
        omega
      | cons w ws =>
        cases h
        unfold mu
        show wL rest + wK get places keys < wL ([] :: rest) + wK get places keys
        rw [wL_cons]
        omega
    | cons n l =>
      simp only at h
      by_cases h1 : n ∈ done
      · rw [if_pos h1] at h
        cases h
        unfold mu
        show wL (l :: rest) + wK get places keys < wL ((n :: l) :: rest) + wK get places keys
        rw [wL_cons, wL_cons, List.length_cons]
        omega
      · rw [if_neg h1] at h
        cases hp : place places n with
        | some i =>
          rw [hp] at h
          cases h
        | none =>
          rw [hp] at h
          cases h
          unfold mu
          show wL (get n :: l :: rest) + wK get ((n, way.length) :: places) keys < wL ((n :: l) :: rest) + wK get places keys
          rw [wL_cons, wL_cons, wL_cons, List.length_cons]
          by_cases hm : n ∈ keys
          · have := wK_less get places n way.length hp keys hm
            omega
          · have := wK_mono get places n way.length keys
            rw [hk n hm, List.length_nil]
            omega
def run (get : α → List α) (keys : List α) (hk : ∀ n, n ∉ keys → get n = []) (s : St α) : Option (List α) × List α :=
  match h : step get s with
  | .fin r d => (r, d)
  | .go s' => run get keys hk s'
termination_by mu get keys s
decreasing_by exact step_less hk h
section
variable {get : α → List α} {keys : List α} {hk : ∀ n, n ∉ keys → get n = []}
theorem run_fin {s : St α} {r : Option (List α)} {d : List α} (h : step get s = .fin r d) : run get keys hk s = (r, d) := by
  rw [run]
  split <;> simp_all
theorem run_go {s s' : St α} (h : step get s = .go s') : run get keys hk s = run get keys hk s' := by
  rw [run]
  split <;> simp_all
end
def ringFrom (get : α → List α) (keys : List α) (hk : ∀ n, n ∉ keys → get n = []) (n : α) (done : List α) : Option (List α) × List α := run get keys hk ⟨[], [], [[n]], done⟩
def ringL (get : α → List α) (keys : List α) (hk : ∀ n, n ∉ keys → get n = []) : List α → List α → Option (List α)
  | [], _ => none
  | n :: ns, done => match ringFrom get keys hk n done with
    | (some r, _) => some r
    | (none, d) => ringL get keys hk ns d
/-! ### what is known on the way -/
def Rel (get : α → List α) (start : α) (done : List α) : Option α → List (List α) → List α → Prop
  | up, ls, [] => (ls = [] ∧ start ∈ done) ∨ ∃ l, ls = [l] ∧ (start ∈ done ∨ start ∈ l ∨ up = some start)
  | up, ls, w :: ws => ∃ l r, ls = l :: r ∧ (∀ x ∈ l, x ∈ get w) ∧ (∀ x ∈ get w, x ∈ done ∨ x ∈ l ∨ up = some x) ∧ (∀ u, up = some u → u ∈ get w) ∧ Rel get start done (some w) r ws
def Ord (get : α → List α) : List α → Prop
  | [] => True
  | d :: ds => (∀ y ∈ get d, y ∈ ds) ∧ Ord get ds
def IsRing (get : α → List α) (r : List α) : Prop := r ≠ [] ∧ r.Nodup ∧ ∀ p ∈ r.zip (r.drop 1 ++ r.take 1), p.2 ∈ get p.1
structure Inv (get : α → List α) (start : α) (s : St α) : Prop where
  nd : s.way.Nodup
  dis : ∀ x ∈ s.way, x ∉ s.done
  pl : ∀ n i, place s.places n = some i → n ∉ s.done → s.way.reverse[i]? = some n
  pw : ∀ n ∈ s.way, place s.places n ≠ none
  rel : Rel get start s.done none s.left s.way
  ord : Ord get s.done
theorem Rel.more {get : α → List α} {start w : α} {done : List α} : ∀ {ws : List α} {up : Option α} {ls : List (List α)}, Rel get start done up ls ws → Rel get start (w :: done) up ls ws
  | [], up, ls, h => by
    rcases h with ⟨h1, h2⟩ | ⟨l, h1, h2⟩
    · exact .inl ⟨h1, List.mem_cons_of_mem _ h2⟩
    · exact .inr ⟨l, h1, h2.imp (List.mem_cons_of_mem _) id⟩
  | v :: vs, up, ls, h => by
    obtain ⟨l, r, e, a, b, c, d⟩ := h
    exact ⟨l, r, e, a, fun x hx => (b x hx).imp (List.mem_cons_of_mem _) id, c, Rel.more d⟩
theorem Rel.pop {get : α → List α} {start w : α} {done : List α} : ∀ {ws : List α} {ls : List (List α)}, Rel get start done (some w) ls ws → Rel get start (w :: done) none ls ws
  | [], ls, h => by
    rcases h with ⟨h1, h2⟩ | ⟨l, h1, h2⟩
    · exact .inl ⟨h1, List.mem_cons_of_mem _ h2⟩
    · refine .inr ⟨l, h1, ?_⟩
      rcases h2 with h | h | h
      · exact .inl (List.mem_cons_of_mem _ h)
      · exact .inr (.inl h)
      · exact .inl (by rw [Option.some.inj h]; exact List.mem_cons_self)
  | v :: vs, ls, h => by
    obtain ⟨l, r, e, a, b, c, d⟩ := h
    refine ⟨l, r, e, a, fun x hx => ?_, fun u hu => (by cases hu), Rel.more d⟩
    rcases b x hx with h | h | h
    · exact .inl (List.mem_cons_of_mem _ h)
    · exact .inr (.inl h)
    · exact .inl (by rw [Option.some.inj h]; exact List.mem_cons_self)
theorem Rel.skip {get : α → List α} {start n : α} {done : List α} {l : List α} {ls : List (List α)} {ws : List α} (hn : n ∈ done) (h : Rel get start done none ((n :: l) :: ls) ws) : Rel get start done none (l :: ls) ws := by
  cases ws with
  | nil =>
    rcases h with ⟨h1, _⟩ | ⟨l', h1, h2⟩
    · cases h1
    · cases h1
      refine .inr ⟨l, rfl, ?_⟩
      rcases h2 with h | h | h
      · exact .inl h
      · rcases List.mem_cons.mp h with h | h
        · exact .inl (by rw [h]; exact hn)
        · exact .inr (.inl h)
      · cases h
  | cons w ws =>
    obtain ⟨l', r, e, a, b, c, d⟩ := h
    cases e
    refine ⟨l, ls, rfl, fun x hx => a x (List.mem_cons_of_mem _ hx), fun x hx => ?_, c, d⟩
    rcases b x hx with h | h | h
    · exact .inl h
    · rcases List.mem_cons.mp h with h | h
      · exact .inl (by rw [h]; exact hn)
      · exact .inr (.inl h)
    · exact .inr (.inr h)
theorem Rel.push {get : α → List α} {start n : α} {done : List α} {l : List α} {ls : List (List α)} {ws : List α} (h : Rel get start done none ((n :: l) :: ls) ws) : Rel get start done none (get n :: l :: ls) (n :: ws) := by
  refine ⟨get n, l :: ls, rfl, fun x hx => hx, fun x hx => .inr (.inl hx), fun u hu => (by cases hu), ?_⟩
  cases ws with
  | nil =>
    rcases h with ⟨h1, _⟩ | ⟨l', h1, h2⟩
    · cases h1
    · cases h1
      refine .inr ⟨l, rfl, ?_⟩
      rcases h2 with h | h | h
      · exact .inl h
      · rcases List.mem_cons.mp h with h | h
        · exact .inr (.inr (by rw [h]))
        · exact .inr (.inl h)
      · cases h
  | cons w ws =>
    obtain ⟨l', r, e, a, b, c, d⟩ := h
    cases e
    refine ⟨l, ls, rfl, fun x hx => a x (List.mem_cons_of_mem _ hx), fun x hx => ?_, fun u hu => ?_, d⟩
    · rcases b x hx with h | h | h
      · exact .inl h
      · rcases List.mem_cons.mp h with h | h
        · exact .inr (.inr (by rw [h]))
        · exact .inr (.inl h)
      · cases h
    · cases hu
      exact a n List.mem_cons_self
/-- the way goes along asks -/
theorem Rel.chain {get : α → List α} {start : α} {done : List α} : ∀ {ws : List α} {up : Option α} {ls : List (List α)}, Rel get start done up ls ws → ∀ i x y, ws[i]? = some x → ws[i + 1]? = some y → x ∈ get y
  | [], _, _, _, i, x, y, h1, _ => by simp at h1
  | [w], _, _, h, i, x, y, _, h2 => by simp at h2
  | w :: v :: ws, _, _, h, 0, x, y, h1, h2 => by
    cases h1
    cases h2
    obtain ⟨_, _, _, _, _, _, d⟩ := h
    obtain ⟨_, _, _, _, _, c, _⟩ := d
    exact c w rfl
  | w :: v :: ws, _, _, h, i + 1, x, y, h1, h2 => by
    obtain ⟨_, _, _, _, _, _, d⟩ := h
    exact Rel.chain d i x y (by simpa using h1) (by simpa using h2)
theorem rev_get {l : List α} {i : Nat} {x : α} (h : l.reverse[i]? = some x) : i < l.length ∧ l[l.length - 1 - i]? = some x := by
  have hi : i < l.length := by
    have := List.getElem?_eq_some_iff.mp h
    simpa using this.1
  refine ⟨hi, ?_⟩
  rw [List.getElem?_reverse hi] at h
  exact h
theorem ring_of {get : α → List α} {way : List α} {i : Nat} {n w : α} {ws : List α} (hw : way = w :: ws) (nd : way.Nodup) (ch : ∀ i x y, way[i]? = some x → way[i + 1]? = some y → x ∈ get y) (hi : way.reverse[i]? = some n) (hn : n ∈ get w) : IsRing get (way.reverse.drop i) := by
  obtain ⟨hil, _⟩ := rev_get hi
  have hl : i < way.reverse.length := by simpa using hil
  have nonempty : way.reverse.drop i ≠ [] := by
    intro h
    have := congrArg List.length h
    rw [List.length_drop] at this
    simp at this
    omega
  refine ⟨nonempty, List.Sublist.nodup (List.drop_sublist _ _) (List.pairwise_reverse.mpr (List.Pairwise.imp (fun h e => h e.symm) nd)), fun p hp => ?_⟩
  obtain ⟨k, hk, e⟩ := List.mem_iff_getElem.mp hp
  have e' := (List.getElem?_eq_getElem hk).trans (congrArg some e)
  rw [List.getElem?_zip_eq_some] at e'
  obtain ⟨e1, e2⟩ := e'
  rw [List.getElem?_drop] at e1
  obtain ⟨h1l, h1⟩ := rev_get e1
  by_cases hlast : k + 1 < (way.reverse.drop i).length
  · rw [List.getElem?_append_left (by rw [List.length_drop]; omega), List.getElem?_drop, List.getElem?_drop] at e2
    obtain ⟨h2l, h2⟩ := rev_get e2
    refine ch (way.length - 1 - (i + (1 + k))) p.2 p.1 h2 ?_
    rw [← h1]
    congr 1
    omega
  · have hlen : (way.reverse.drop i).length = way.length - i := by simp
    have hk1 : k < way.length - i := by omega
    rw [hlen] at hlast
    have hkl : i + k = way.length - 1 := by omega
    rw [List.getElem?_append_right (by rw [List.length_drop, hlen]; omega)] at e2
    have : k - ((way.reverse.drop i).drop 1).length = 0 := by
      rw [List.length_drop, hlen]
      omega
    rw [this, List.getElem?_take_of_lt (by decide), List.getElem?_drop, Nat.add_zero, hi] at e2
    have p2 : p.2 = n := (Option.some.inj e2).symm
    have : way.length - 1 - (i + k) = 0 := by omega
    rw [this, hw] at h1
    have p1 : p.1 = w := (Option.some.inj h1).symm
    rw [p1, p2]
    exact hn
/-- a step keeps what is known -/
theorem Inv.step {get : α → List α} {start : α} {s s' : St α} (I : Inv get start s) (h : M18.step get s = .go s') : Inv get start s' := by
  obtain ⟨way, places, left, done⟩ := s
  obtain ⟨nd, dis, pl, pw, rel, ord⟩ := I
  unfold M18.step at h
  cases left with
  | nil => cases h
  | cons t rest =>
    cases t with
    | nil =>
      cases way with
      | nil =>
        cases h
        refine ⟨.nil, fun x hx => absurd hx (by simp), fun n i h1 h2 => ?_, fun n hn => absurd hn (by simp), ?_, ord⟩
        · have := pl n i h1 h2
          simp at this
        · rcases rel with ⟨h1, _⟩ | ⟨l, h1, h2⟩
          · cases h1
          · cases h1
            refine .inl ⟨rfl, ?_⟩
            rcases h2 with h | h | h
            · exact h
            · simp at h
            · cases h
      | cons w ws =>
        cases h
        obtain ⟨l, r, e, a, b, c, d⟩ := rel
        cases e
        have nd' := List.nodup_cons.mp nd
        refine ⟨nd'.2, fun x hx hd => ?_, fun n i h1 h2 => ?_, fun n hn => pw n (List.mem_cons_of_mem _ hn), Rel.pop d, ⟨fun y hy => ?_, ord⟩⟩
        · rcases List.mem_cons.mp hd with hd | hd
          · exact nd'.1 (by rw [← hd]; exact hx)
          · exact dis x (List.mem_cons_of_mem _ hx) hd
        · have hn : n ∉ done := fun z => h2 (List.mem_cons_of_mem _ z)
          have hw : n ≠ w := fun z => h2 (by rw [z]; exact List.mem_cons_self)
          have := pl n i h1 hn
          rw [List.reverse_cons] at this
          by_cases hi : i < ws.reverse.length
          · rw [List.getElem?_append_left hi] at this
            exact this
          · rw [List.getElem?_append_right (by omega)] at this
            have hz : i - ws.reverse.length = 0 := by
              have := (List.getElem?_eq_some_iff.mp this).1
              simpa using this
            rw [hz] at this
            exact absurd (Option.some.inj this).symm hw
        · rcases b y hy with h | h | h
          · exact h
          · simp at h
          · cases h
    | cons n l =>
      simp only at h
      by_cases h1 : n ∈ done
      · rw [if_pos h1] at h
        cases h
        exact ⟨nd, dis, pl, pw, Rel.skip h1 rel, ord⟩
      · rw [if_neg h1] at h
        cases hp : place places n with
        | some i =>
          rw [hp] at h
          cases h
        | none =>
          rw [hp] at h
          cases h
          have nw : n ∉ way := fun z => pw n z hp
          refine ⟨List.nodup_cons.mpr ⟨nw, nd⟩, fun x hx => ?_, fun m i h2 h3 => ?_, fun m hm => ?_, Rel.push rel, ord⟩
          · rcases List.mem_cons.mp hx with e | e
            · rw [e]
              exact h1
            · exact dis x e
          · rw [List.reverse_cons]
            have h2 : place ((n, way.length) :: places) m = some i := h2
            rw [place_cons] at h2
            by_cases e : n = m
            · rw [if_pos e] at h2
              have : i = way.reverse.length := by
                rw [List.length_reverse]
                exact (Option.some.inj h2).symm
              rw [this, List.getElem?_append_right (Nat.le_refl _), Nat.sub_self, e]
              rfl
            · rw [if_neg e] at h2
              have := pl m i h2 h3
              rw [List.getElem?_append_left (List.getElem?_eq_some_iff.mp this).1]
              exact this
          · show place ((n, way.length) :: places) m ≠ none
            rw [place_cons]
            by_cases e : n = m
            · rw [if_pos e]
              simp
            · rw [if_neg e]
              rcases List.mem_cons.mp hm with h | h
              · exact absurd h.symm e
              · exact pw m h
/-- where it ends -/
theorem Inv.fin {get : α → List α} {start : α} {s : St α} {r : Option (List α)} {d : List α} (I : Inv get start s) (h : M18.step get s = .fin r d) : d = s.done ∧ (r = none → start ∈ d) ∧ ∀ x, r = some x → IsRing get x := by
  obtain ⟨way, places, left, done⟩ := s
  obtain ⟨nd, dis, pl, pw, rel, ord⟩ := I
  unfold M18.step at h
  cases left with
  | nil =>
    cases h
    refine ⟨rfl, fun _ => ?_, fun x hx => by cases hx⟩
    cases way with
    | nil =>
      rcases rel with ⟨_, h⟩ | ⟨l, h, _⟩
      · exact h
      · cases h
    | cons w ws =>
      obtain ⟨l, r, e, _⟩ := rel
      cases e
  | cons t rest =>
    cases t with
    | nil =>
      cases way with
      | nil => cases h
      | cons w ws => cases h
    | cons n l =>
      simp only at h
      by_cases h1 : n ∈ done
      · rw [if_pos h1] at h
        cases h
      · rw [if_neg h1] at h
        cases hp : place places n with
        | none =>
          rw [hp] at h
          cases h
        | some i =>
          rw [hp] at h
          cases h
          refine ⟨rfl, fun h => (by cases h), fun x hx => ?_⟩
          cases hx
          have hi := pl n i hp h1
          cases way with
          | nil => simp at hi
          | cons w ws =>
            have ch := rel.chain
            obtain ⟨l', r, e, a, b, c, d⟩ := rel
            cases e
            exact ring_of rfl nd ch hi (a n List.mem_cons_self)
theorem run_ends {get : α → List α} {keys : List α} {hk : ∀ n, n ∉ keys → get n = []} {start : α} : ∀ (k : Nat) (s : St α), mu get keys s ≤ k → Inv get start s → Ord get (run get keys hk s).2 ∧ (∀ x ∈ s.done, x ∈ (run get keys hk s).2) ∧ ((run get keys hk s).1 = none → start ∈ (run get keys hk s).2) ∧ ∀ x, (run get keys hk s).1 = some x → IsRing get x := by
  intro k
  induction k with
  | zero =>
    intro s hm I
    cases h : M18.step get s with
    | fin r d =>
      rw [run_fin h]
      obtain ⟨e, h1, h2⟩ := I.fin h
      exact ⟨by rw [e]; exact I.ord, fun x hx => by rw [e]; exact hx, h1, h2⟩
    | go s' =>
      have := step_less hk h
      omega
  | succ k ih =>
    intro s hm I
    cases h : M18.step get s with
    | fin r d =>
      rw [run_fin h]
      obtain ⟨e, h1, h2⟩ := I.fin h
      exact ⟨by rw [e]; exact I.ord, fun x hx => by rw [e]; exact hx, h1, h2⟩
    | go s' =>
      have hl := step_less hk h
      rw [run_go h]
      obtain ⟨a, b, c, d⟩ := ih s' (by omega) (I.step h)
      refine ⟨a, fun x hx => b x ?_, c, d⟩
      obtain ⟨way, places, left, done⟩ := s
      unfold M18.step at h
      split at h
      · cases h
      · split at h
        · cases h
          exact hx
        · cases h
          exact List.mem_cons_of_mem _ hx
      · split at h
        · cases h
          exact hx
        · split at h
          · cases h
          · cases h
            exact hx
theorem inv_start {get : α → List α} {n : α} {done : List α} (o : Ord get done) : Inv get n ⟨[], [], [[n]], done⟩ :=
  ⟨.nil, fun x hx => absurd hx (by simp), fun m i h => (by cases h), fun m hm => absurd hm (by simp), .inr ⟨[n], rfl, .inr (.inl (by simp))⟩, o⟩
theorem ringL_none {get : α → List α} {keys : List α} {hk : ∀ n, n ∉ keys → get n = []} : ∀ (ns done : List α), Ord get done → ringL get keys hk ns done = none → ∃ d, Ord get d ∧ (∀ x ∈ done, x ∈ d) ∧ ∀ x ∈ ns, x ∈ d
  | [], done, o, _ => ⟨done, o, fun x hx => hx, fun x hx => absurd hx (by simp)⟩
  | n :: ns, done, o, h => by
    have e := run_ends (hk := hk) _ _ (Nat.le_refl _) (inv_start (n := n) o)
    unfold ringL ringFrom at h
    cases hr : run get keys hk ⟨[], [], [[n]], done⟩ with
    | mk r d =>
      rw [hr] at e h
      cases r with
      | some x => cases h
      | none =>
        obtain ⟨a, b, c, _⟩ := e
        obtain ⟨d2, o2, h2, h3⟩ := ringL_none ns d a h
        refine ⟨d2, o2, fun x hx => h2 x (b x hx), fun x hx => ?_⟩
        rcases List.mem_cons.mp hx with z | z
        · rw [z]
          exact h2 n (c rfl)
        · exact h3 x z
theorem ringL_some {get : α → List α} {keys : List α} {hk : ∀ n, n ∉ keys → get n = []} {r : List α} : ∀ (ns done : List α), Ord get done → ringL get keys hk ns done = some r → IsRing get r
  | [], done, o, h => by cases h
  | n :: ns, done, o, h => by
    have e := run_ends (hk := hk) _ _ (Nat.le_refl _) (inv_start (n := n) o)
    unfold ringL ringFrom at h
    cases hr : run get keys hk ⟨[], [], [[n]], done⟩ with
    | mk r' d =>
      rw [hr] at e h
      cases r' with
      | some x =>
        cases h
        exact e.2.2.2 _ rfl
      | none => exact ringL_some ns d e.1 h
/-! ### taking off -/
def gone (get : α → List α) (L : List α) : List α := L.filter fun n => (get n).all fun m => !decide (m ∈ L)
theorem gone_ring {get : α → List α} {r L : List α} (h : IsRing get r) (hL : ∀ x ∈ r, x ∈ L) : ∀ x ∈ r, x ∉ gone get L := fun x hx hg => by
  have hg := (List.mem_filter.mp hg).2
  obtain ⟨i, hi, rfl⟩ := List.mem_iff_getElem.mp hx
  have zl : (r.drop 1 ++ r.take 1).length = r.length := by
    rw [List.length_append, List.length_drop, List.length_take]
    omega
  have hm := h.2.2 (r[i], (r.drop 1 ++ r.take 1)[i]'(by omega)) (List.mem_iff_getElem.mpr ⟨i, by rw [List.length_zip]; omega, by rw [List.getElem_zip]⟩)
  have inr : (r.drop 1 ++ r.take 1)[i]'(by omega) ∈ r := by
    have := List.getElem_mem (l := r.drop 1 ++ r.take 1) (n := i) (by omega)
    rcases List.mem_append.mp this with h | h
    · exact List.mem_of_mem_drop h
    · exact List.mem_of_mem_take h
  have := List.all_eq_true.mp hg _ hm
  simp only [Bool.not_eq_true', decide_eq_false_iff_not] at this
  exact this (hL _ inr)
theorem gone_some {get : α → List α} {L : List α} : ∀ (d : List α), Ord get d → (∃ x ∈ L, x ∈ d) → gone get L ≠ []
  | [], _, ⟨x, _, h⟩ => by simp at h
  | w :: d, o, ⟨x, hx, hd⟩ => by
    by_cases h : ∃ y ∈ L, y ∈ d
    · exact gone_some d o.2 h
    · have xw : x = w := by
        rcases List.mem_cons.mp hd with z | z
        · exact z
        · exact absurd ⟨x, hx, z⟩ h
      subst xw
      intro z
      have : x ∈ gone get L := by
        refine List.mem_filter.mpr ⟨hx, List.all_eq_true.mpr fun m hm => ?_⟩
        simp only [Bool.not_eq_true', decide_eq_false_iff_not]
        exact fun ml => h ⟨m, ml, o.1 m hm⟩
      rw [z] at this
      simp at this
end M18

set_option Elab.async false
set_option linter.all false
set_option maxRecDepth 100000
set_option maxHeartbeats 4000000
namespace K17
open PySem PySem.Spec PyProof.Rows L2 Z
open Evl (Ex ex_l ex_t sq_of st_of fresh_back RetL RetV)
local macro_rules | `(tactic| walk_at "zc") => `(tactic| first
  | (show (0 : Int) < _; omega)
  | exact ⟨by decide, by decide⟩
  | exact Or.inl ⟨by decide, by decide⟩
  | exact Or.inr ⟨by decide, by decide⟩
  | exact ⟨by decide, by decide, by decide⟩
  | exact Or.inl ⟨by omega, by omega⟩
  | exact Or.inr ⟨by omega, by omega⟩)
local macro_rules | `(tactic| walk_at "sq") => `(tactic| first
  | assumption
  | exact sq_of (by assumption)
  | exact sq_of upd_same
  | exact st_of (by assumption)
  | exact st_of upd_same
  | (refine ex_l (by assumption) ?_; walk_at "sq")
  | (refine ex_t (by assumption) ?_; walk_at "sq")
  | (refine ex_l (Ex.new (by assumption)) ?_; walk_at "sq")
  | (refine ex_t (Ex.new (by assumption)) ?_; walk_at "sq"))
local macro_rules | `(tactic| walk_at "ex") => `(tactic| first
  | exact Ex.refl _
  | assumption
  | (refine Ex.trans ?_ (Ex.new (by assumption)); walk_at "ex")
  | ((refine' Ex.trans ?_ ?zx); (case zx => assumption); walk_at "ex"))
local macro_rules | `(tactic| walk_at "z1") => `(tactic| first
  | with_reducible exact trivial
  | with_reducible refine z_seq ?_
  | with_reducible refine z_asg ?_
  | with_reducible refine z_ret ?_
  | with_reducible refine z_ifs ?_
  | with_reducible refine z_op ?_
  | with_reducible refine z_c ?_
  | ((with_reducible refine' z_var ?zh ?_); (case zh => exact rfl))
  | with_reducible refine z_i0 ?_
  | with_reducible refine z_gname ?_
  | ((with_reducible refine z_i ?zh ?_); (case zh => walk_at "zc"))
  | with_reducible refine z_next ?_
  | with_reducible refine z_test ?_
  | with_reducible refine z_tB ?_
  | with_reducible refine z_bl ?_
  | ((with_reducible refine z_eq ?zh ?_); (case zh => rfl))
  | ((with_reducible refine z_ne ?zh ?_); (case zh => rfl))
  | with_reducible refine z_cons ?_
  | with_reducible refine z_nil ?_
  | with_reducible refine z_call ?_
  | with_reducible refine z_cb ?_
  | with_reducible refine z_lst ?_
  | with_reducible refine z_tup ?_
  | with_reducible refine z_un ?_
  | with_reducible refine z_u ?_
  | with_reducible refine z_if ?_
  | with_reducible refine z_andT ?_
  | with_reducible refine z_orT ?_
  | with_reducible refine z_notT ?_
  | with_reducible refine z_trub ?_
  | with_reducible refine z_trui ?_
  | with_reducible refine z_trun ?_
  | with_reducible refine z_tru ?_
  | with_reducible refine z_and ?_
  | with_reducible refine z_or ?_
  | with_reducible refine z_not ?_
  | with_reducible refine z_yes ?_
  | with_reducible refine z_isN ?_
  | with_reducible refine z_notN ?_
  | with_reducible refine z_chain ?_
  | with_reducible refine z_int1 ?_
  | with_reducible refine z_intb ?_
  | with_reducible refine z_max2 ?_
  | with_reducible refine z_min2 ?_
  | with_reducible refine z_revL ?_
  | with_reducible refine z_nopart ?_
  | with_reducible refine z_part ?_
  | with_reducible refine z_part1 ?_
  | with_reducible refine z_sl ?_
  | with_reducible refine z_drop ?_
  | with_reducible refine z_bm ?_
  | with_reducible refine z_bm0 ?_
  | with_reducible refine z_tys ?_
  | with_reducible refine z_brk ?_
  | with_reducible refine z_cont ?_
  | with_reducible refine z_retN ?_
  | with_reducible refine z_fl ?_
  | with_reducible refine z_ft ?_
  | with_reducible refine z_fs ?_
  | with_reducible refine z_fr1 ?_
  | with_reducible refine z_fr2 ?_
  | with_reducible refine z_fz ?_
  | with_reducible refine z_fe ?_
  | with_reducible refine z_cl ?_
  | with_reducible refine z_cs ?_
  | with_reducible refine z_cr1 ?_
  | with_reducible refine z_crv ?_
  | with_reducible refine z_isbl ?_
  | with_reducible refine z_notbl ?_
  | with_reducible refine ite_t ?_
  | with_reducible refine ite_f ?_
  | ((with_reducible refine' z_aug ?zh ?_); (case zh => exact rfl))
  | with_reducible refine z_ipi ?_)
local macro_rules | `(tactic| walk_at "zz") => `(tactic| repeat walk_at "z1")
open ZW ZN ZI M01 Y
local macro_rules | `(tactic| walk_at "z1") => `(tactic| first
  | with_reducible refine z_fld ?_
  | with_reducible refine z_sfld ?_
  | with_reducible refine z_meth ?_
  | with_reducible refine z_make ?_
  | with_reducible refine z_par ?_
  | with_reducible refine z_gsub ?_
  | with_reducible refine z_dget ?_
  | with_reducible refine z_dget2 ?_
  | with_reducible refine z_din ?_
  | with_reducible refine z_dnotin ?_
  | with_reducible refine z_dput ?_
  | with_reducible refine z_ce ?_
  | with_reducible refine z_ces ?_
  | with_reducible refine z_fes ?_
  | with_reducible refine z_fzw ?_
  | with_reducible refine z_ct ?_
  | with_reducible refine z_fk ?_
  | with_reducible refine z_ck ?_
  | with_reducible refine z_dpop1 ?_
  | with_reducible refine z_dt ?_
  | with_reducible refine z_tidx ?_)

def mixN (n k : Int) : Int := (n + 7919 * k * k + 31 * k + 1) * 48271 % 2147483647 * 69621 % 2147483629 / 64
theorem mixN_b (n k : Int) : 0 ≤ mixN n k ∧ mixN n k < 33554432 := by
  unfold mixN
  omega
def cellB (b k : Int) : Int := (b + 7919 * k * k + 31 * k) * 48271 % 2147483647 * 69621 % 2147483629 / 64
def cellN (ns : List Int) (k : Int) : Int := cellB (if 0 < ns.length then ns.getD (k % ns.length).toNat 0 % 2147483647 else 17) k
theorem cellN_b (ns : List Int) (k : Int) : 0 ≤ cellN ns k ∧ cellN ns k < 33554432 := by
  unfold cellN cellB
  omega
def sN (n : Int) : Nat → Int
  | 0 => 0
  | i + 1 => Builtin.bitOr (sN n i * 2 ^ (25 : Int).toNat) (mixN n (i : Int))
/-- a list that draws: the script, how many were drawn -/
def Dr (K : PySem.W.Frag) (H : Hp) (d a : Addr) (ns : List Int) (k : Nat) : Prop := H d = some (.lst [.ref a, .int (k : Int)]) ∧ SqL K H a (ns.map V.int)
def sp_L_mixed : Sp := fun vs H Q _ => ∃ (n k : Int), vs = [.int n, .int k] ∧ (0 ≤ k ∧ k ≤ 100000) ∧ RetV (.int (mixN n k)) H Q
def sp_L_cell (K : PySem.W.Frag) : Sp := fun vs H Q _ => ∃ (a : Addr) (ns : List Int) (k : Int), vs = [.ref a, .int k] ∧ SqL K H a (ns.map V.int) ∧ (0 ≤ k ∧ k ≤ 100000) ∧ RetV (.int (cellN ns k)) H Q
def sp_L_next (K : PySem.W.Frag) : Sp := fun vs H Q _ => ∃ (d a : Addr) (ns : List Int) (k : Nat), vs = [.ref d] ∧ Dr K H d a ns k ∧ k ≤ 90000 ∧ ∀ (i : Int) H', 0 ≤ i → i < 33554432 → Dr K H' d a ns (k + 1) → But [d] H H' → Q (.int i) H'
def sp_L_word : Sp := fun vs H Q _ => ∃ (n w : Int), vs = [.int n, .int w] ∧ 0 ≤ n ∧ (1 ≤ w ∧ w ≤ 64) ∧ ∀ i : Int, 0 ≤ i → i < 2 ^ 64 → RetV (.int i) H Q
def sp_L_names (K : PySem.W.Frag) : Sp := fun vs H Q _ => ∃ (n : Int), vs = [.int n] ∧ (0 ≤ n ∧ n < 33554432) ∧ ∀ zs : List Str, zs.length = 16 → zs.Nodup → (∀ z ∈ zs, nmS z) → RetL (zs.map V.str) H Q
/-- a width as drawn -/
def wOk3 (ps : List Str) (w : Wd) : Prop := (w.1 = Str.ofString "" ∧ 1 ≤ w.2 ∧ w.2 ≤ 64) ∨ (w.1 ∈ ps ∧ -3 ≤ w.2 ∧ w.2 ≤ 5)
theorem wOk3.ok {ps : List Str} {w : Wd} (h : wOk3 ps w) : wOk ps w := h.imp (fun x => x) fun x => ⟨x.1, by omega, by omega⟩
/-- params in a list -/
def PsAt (K : PySem.W.Frag) (H : Hp) (p : Addr) (ps : List Str) : Prop := SqL K H p (ps.map V.str) ∧ ps.length ≤ 3 ∧ ∀ z ∈ ps, nmS z
def sp_L_width (K : PySem.W.Frag) : Sp := fun vs H Q _ => ∃ (d a p : Addr) (ns : List Int) (k : Nat) (ps : List Str), vs = [.ref d, .ref p] ∧ (Dr K H d a ns k ∧ k ≤ 90000) ∧ PsAt K H p ps ∧ ∀ v H' w, Dr K H' d a ns (k + 1) → But [d] H H' → Tu H' v (wdD w) → wOk3 ps w → Q v H'
def sp_L_first (K : PySem.W.Frag) : Sp := fun vs H Q _ => ∃ (n : Int) (v : V) (w : Wd), vs = [.int n, v] ∧ 0 ≤ n ∧ Tu H v (wdD w) ∧ (w.1 = Str.ofString "" → 1 ≤ w.2 ∧ w.2 ≤ 64) ∧ ∀ i : Int, 0 ≤ i → i < 2 ^ 64 → RetV (.int i) H Q
/-- words that terms may ask, with widths -/
abbrev Wl : Type := List (Trm × Wd)
def wlD (p : Trm × Wd) : PyData := .tuple [p.1.d, wdD p.2]
def WlAt (H : Hp) (l : Addr) (ws : Wl) : Prop := ∃ xs, H l = some (.lst xs) ∧ TuAll H xs (ws.map wlD)
def wlOk (ps : List Str) (ws : Wl) : Prop := (∀ p ∈ ws, p.1.ok ps ∧ p.1.deep ≤ 1 ∧ wOk ps p.2) ∧ ws.length ≤ 60
def wsN (ws : Wl) : List Str := ws.flatMap fun p => p.1.names
def sp_L_leaf (K : PySem.W.Frag) : Sp := fun vs H Q _ => ∃ (d a l : Addr) (v : V) (ns : List Int) (k : Nat) (ws : Wl) (w : Wd) (ps : List Str), vs = [.ref d, .ref l, v] ∧ (Dr K H d a ns k ∧ k ≤ 90000 ∧ d ≠ l) ∧ WlAt H l ws ∧ wlOk ps ws ∧ Tu H v (wdD w) ∧ wOk ps w ∧ (∀ z ∈ ps, nmS z) ∧ ∀ (u : V) (H' : Hp) (t : Trm), Dr K H' d a ns (k + 1) → But [d] H H' → Tu H' u t.d → t.ok ps → t.deep ≤ 1 → (∀ x ∈ t.names, x ∈ wsN ws) → Q u H'
abbrev Sl : Type := List (Str × Wd)
def slD (p : Str × Wd) : PyData := .tuple [.str p.1, wdD p.2]
def SlAt (H : Hp) (l : Addr) (ss : Sl) : Prop := ∃ xs, H l = some (.lst xs) ∧ TuAll H xs (ss.map slD)
def slOk (ps : List Str) (ss : Sl) : Prop := (∀ p ∈ ss, nmS p.1 ∧ wOk3 ps p.2) ∧ ss.length ≤ 10
/-- a list that is kept when b changes -/
def Sep (K : PySem.W.Frag) (a b : Addr) (xs : List V) : Prop := a ≠ b ∨ ∀ H : Hp, SqL K H a xs
/-- what stands while a part is drawn: the draw, what terms may ask -/
structure En (K : PySem.W.Frag) (H : Hp) (d a hs h0 h1 : Addr) (ns : List Int) (k : Nat) (ws : Wl) (ss : Sl) (ps : List Str) : Prop where
  dr : Dr K H d a ns k
  has : H hs = some (.tup [.ref h0, .ref h1])
  wl : WlAt H h0 ws
  sl : SlAt H h1 ss
  n0 : d ≠ h0
  n1 : d ≠ h1
  n2 : h0 ≠ h1
  s0 : Sep K a h0 (ns.map V.int)
  s1 : Sep K a h1 (ns.map V.int)
  okl : wlOk ps ws
  oks : slOk ps ss
  hps : ∀ z ∈ ps, nmS z
def tc : Nat → Nat
  | 0 => 1
  | n + 1 => 3 * tc n + 3
def TmOk (ps : List Str) (ws : Wl) (e : Nat) (t : Trm) : Prop := t.ok ps ∧ t.deep ≤ e ∧ ∀ x ∈ t.names, x ∈ wsN ws
def sp_L_term (K : PySem.W.Frag) (n : Nat) : Sp := fun vs H Q _ => ∃ (d a hs h0 h1 : Addr) (v : V) (ns : List Int) (k : Nat) (ws : Wl) (ss : Sl) (wd : Wd) (ps : List Str) (e : Nat), vs = [.ref d, .ref hs, v, .int (e : Int)] ∧ (1 ≤ e ∧ e < n) ∧ En K H d a hs h0 h1 ns k ws ss ps ∧ k + tc n ≤ 90000 ∧ Tu H v (wdD wd) ∧ wOk ps wd ∧ ∀ (u : V) (H' : Hp) (t : Trm) (k' : Nat), Dr K H' d a ns k' → k' ≤ k + tc n → But [d] H H' → Tu H' u t.d → TmOk ps ws e t → Q u H'
def sp_L_bent (K : PySem.W.Frag) (n : Nat) : Sp := fun vs H Q _ => ∃ (d a hs h0 h1 : Addr) (v : V) (ns : List Int) (k : Nat) (ws : Wl) (ss : Sl) (wd : Wd) (ps : List Str) (e : Nat) (m : Int), vs = [.ref d, .ref hs, v, .int (e : Int), .int m] ∧ (1 ≤ e ∧ e < n) ∧ 0 ≤ m ∧ En K H d a hs h0 h1 ns k ws ss ps ∧ k + (2 * tc n + 1) ≤ 90000 ∧ Tu H v (wdD wd) ∧ wOk ps wd ∧ ∀ (u : V) (H' : Hp) (t : Trm) (k' : Nat), Dr K H' d a ns k' → k' ≤ k + (2 * tc n + 1) → But [d] H H' → Tu H' u t.d → TmOk ps ws (e + 1) t → Q u H'

/-- what stands at the head of a part: doors in, rests, tables, memories, without terms -/
inductive Hd where
  | inn (x : Str) (w : Wd)
  | rest (x : Str) (w : Wd) (n : Int)
  | tab (x : Str) (w : Wd) (ns : List Int)
  | mem (x : Str) (w : Wd) (size : Int)
def Hd.k : Hd → Str
  | .inn .. => Str.ofString "in"
  | .rest .. => Str.ofString "rest"
  | .tab .. => Str.ofString "table"
  | .mem .. => Str.ofString "memory"
def Hd.x : Hd → Str
  | .inn x _ | .rest x _ _ | .tab x _ _ | .mem x _ _ => x
def Hd.w : Hd → Wd
  | .inn _ w | .rest _ w _ | .tab _ w _ | .mem _ w _ => w
def Hd.more : Hd → List PyData
  | .inn .. => []
  | .rest _ _ n => [.int n]
  | .tab _ _ ns => [.tuple (ns.map PyData.int)]
  | .mem _ _ n => [.int n]
def Hd.d (h : Hd) : PyData := .tuple (.str h.k :: .str h.x :: wdD h.w :: h.more)
def Hd.isW : Hd → Bool
  | .inn .. | .rest .. => true
  | _ => false
def Hd.ok (ps : List Str) (h : Hd) : Prop := nmS h.x ∧ wOk3 ps h.w ∧ match h with
  | .inn .. => True
  | .rest _ _ n => 0 ≤ n ∧ n < 2 ^ 64
  | .tab _ _ ns => ns.length ≤ 32 ∧ ∀ n ∈ ns, 0 ≤ n ∧ n < 2 ^ 64
  | .mem _ _ n => 1 ≤ n ∧ n ≤ 32
def wsH (hd : List Hd) : Wl := (hd.filter Hd.isW).map fun h => (.name h.x, h.w)
def ssH (hd : List Hd) : Sl := (hd.filter fun h => !h.isW).map fun h => (h.x, h.w)
def PsL (H : Hp) (p : Addr) (ps : List Str) : Prop := H p = some (.lst (ps.map V.str)) ∧ ps.length ≤ 3 ∧ ∀ z ∈ ps, nmS z
def sp_L_heads (K : PySem.W.Frag) : Sp := fun vs H Q _ => ∃ (d a nl p hs h0 h1 : Addr) (ns : List Int) (k : Nat) (zs ps : List Str), vs = [.ref d, .ref nl, .ref p, .ref hs] ∧ (Dr K H d a ns k ∧ k ≤ 80000) ∧ (H nl = some (.lst (zs.map V.str)) ∧ 7 ≤ zs.length ∧ ∀ z ∈ zs, nmS z) ∧ PsL H p ps ∧ (H hs = some (.tup [.ref h0, .ref h1]) ∧ H h0 = some (.lst []) ∧ H h1 = some (.lst [])) ∧ (p ≠ nl ∧ p ≠ d ∧ h0 ≠ h1 ∧ p ≠ h0 ∧ p ≠ h1) ∧ (Sep K a nl (ns.map V.int) ∧ Sep K a h0 (ns.map V.int) ∧ Sep K a h1 (ns.map V.int)) ∧ ∀ (r : Addr) (H' : Hp) (hd : List Hd) (k' : Nat) (us : List V), H r = none → H' r = some (.lst us) → TuAll H' us (hd.map Hd.d) → (∀ h ∈ hd, h.ok ps) → hd.length ≤ 7 → H' nl = some (.lst ((zs.drop hd.length).map V.str)) → hd.map Hd.x = zs.take hd.length → Dr K H' d a ns k' → k' ≤ k + 12 → WlAt H' h0 (wsH hd) → SlAt H' h1 (ssH hd) → But [d, nl, h0, h1] H H' → Q (.ref r) H'

def stp (b : Bool) : Str := if b then Str.ofString "wire" else Str.ofString "out"
def ow (b : Bool) (x : Str) (w : Wd) : Y.Row := if b then .wire x w else .out x w
def sp_L_wired (K : PySem.W.Frag) : Sp := fun vs H Q _ => ∃ (d a p hs h0 h1 : Addr) (b : Bool) (own : Str) (ns : List Int) (k : Nat) (ws : Wl) (ss : Sl) (ps : List Str), vs = [.ref d, .str (stp b), .str own, .ref p, .ref hs] ∧ En K H d a hs h0 h1 ns k ws ss ps ∧ k ≤ 70000 ∧ nmS own ∧ ws.length ≤ 50 ∧ PsL H p ps ∧ p ≠ d ∧ ∀ (r : Addr) (H' : Hp) (u1 u2 : V) (w : Wd) (t : Trm) (k' : Nat), H r = none → H' r = some (.lst [u1, u2]) → Tu H' u1 (ow b own w).d → Tu H' u2 (Y.Row.let_ own t).d → wOk3 ps w → TmOk ps ws 4 t → En K H' d a hs h0 h1 ns k' (ws ++ [(.name own, w)]) ss ps → k' ≤ k + 700 → But [d, h0] H H' → Q (.ref r) H'

def rk : Y.Row → Str
  | .inn .. => Str.ofString "in"
  | .out .. => Str.ofString "out"
  | .wire .. => Str.ofString "wire"
  | .rest .. => Str.ofString "rest"
  | .let_ .. => Str.ofString "let"
  | .use .. => Str.ofString "use"
  | .tab .. => Str.ofString "table"
  | .mem .. => Str.ofString "memory"
def rx : Y.Row → Str
  | .inn x _ | .out x _ | .wire x _ | .rest x _ _ _ | .let_ x _ | .use x _ _ _ | .tab x _ _ | .mem x _ _ _ _ _ => x
def rmore : Y.Row → List PyData
  | .inn _ w | .out _ w | .wire _ w => [wdD w]
  | .rest _ w n t => [wdD w, .int n, t.d]
  | .let_ _ t => [t.d]
  | .use _ q ws ts => [.str q, .tuple (ws.map wdD), .tuple (ts.map Trm.d)]
  | .tab _ w ns => [wdD w, .tuple (ns.map PyData.int)]
  | .mem _ w size a b c => [wdD w, .int size, a.d, b.d, c.d]
def door : Y.Row → Option (Bool × Str × Wd)
  | .inn x w => some (true, x, w)
  | .out x w => some (false, x, w)
  | _ => none
def drs (rows : List Y.Row) : List (Bool × Str × Wd) := rows.filterMap door
def kB (b : Bool) : Str := if b then Str.ofString "in" else Str.ofString "out"
def insOf (pt : Y.Part) : List Str := ((drs pt.rows).filter fun e => e.1).map fun e => e.2.1
def outsOf (pt : Y.Part) : List Str := ((drs pt.rows).filter fun e => !e.1).map fun e => e.2.1
/-- what a use wants of a part -/
structure PU (pt : Y.Part) : Prop where
  nm : nmS pt.name
  pl : pt.params.length ≤ 3
  pn : ∀ z ∈ pt.params, nmS z
  rl : pt.rows.length ≤ 30
  dr : ∀ e ∈ drs pt.rows, nmS e.2.1 ∧ wOk3 pt.params e.2.2
  di : (insOf pt).length ≤ 7
  dt : (outsOf pt).length ≤ 6
  rc : ∀ r ∈ pt.rows, cl r.d = true ∧ r.d.depth ≤ 20
def PartAt (H : Hp) (v : V) (pt : Y.Part) : Prop := ∃ (a pa ra : Addr) (o : Obj) (rs : List V), v = .ref a ∧ H a = some (.tup [.str pt.name, .ref pa, .ref ra]) ∧ H pa = some (.frz o (.tup (pt.params.map V.str))) ∧ o.dict = none ∧ H ra = some (.tup rs) ∧ TuAll H rs (pt.rows.map Y.Row.d)
def PtAll (H : Hp) (xs : List V) (y : Yard) : Prop := xs.length = y.length ∧ ∀ (i : Nat) v pt, xs[i]? = some v → y[i]? = some pt → PartAt H v pt
def PtsAt (H : Hp) (l : Addr) (y : Yard) : Prop := ∃ xs, H l = some (.lst xs) ∧ PtAll H xs y
def useW (ps : List Str) (w : Wd) : Prop := (w.1 = Str.ofString "" ∧ 4 ≤ w.2 ∧ w.2 ≤ 59) ∨ (w.1 ∈ ps ∧ w.2 = 0)
def sp_L_used (K : PySem.W.Frag) : Sp := fun vs H Q _ => ∃ (d a pl p hs h0 h1 : Addr) (own : Str) (ns : List Int) (k : Nat) (ws : Wl) (ss : Sl) (ps : List Str) (yd : Yard), vs = [.ref d, .ref pl, .str own, .ref p, .ref hs] ∧ En K H d a hs h0 h1 ns k ws ss ps ∧ k ≤ 70000 ∧ nmS own ∧ ws.length ≤ 50 ∧ PsL H p ps ∧ p ≠ d ∧ (PtsAt H pl yd ∧ yd ≠ [] ∧ (∀ pt ∈ yd, PU pt) ∧ pl ≠ d) ∧ ∀ (u : V) (H' : Hp) (pt : Y.Part) (uws : List Wd) (ts : List Trm) (es : Wl) (k' : Nat), pt ∈ yd → uws.length = pt.params.length → (∀ w ∈ uws, useW ps w) → (∀ t ∈ ts, TmOk ps ws 3 t) → ts.length = (insOf pt).length → es.map Prod.fst = (outsOf pt).map (Trm.of_ own) → Tu H' u (Y.Row.use own pt.name uws ts).d → En K H' d a hs h0 h1 ns k' (ws ++ es) ss ps → k' ≤ k + 1500 → But [d, h0] H H' → Q u H'

/-- a row as drawn -/
def rowOk (ps : List Str) : Y.Row → Prop
  | .inn x w | .out x w | .wire x w => nmS x ∧ wOk3 ps w
  | .rest x w n t => nmS x ∧ wOk3 ps w ∧ (0 ≤ n ∧ n < 2 ^ 64) ∧ t.ok ps ∧ t.deep ≤ 4
  | .let_ x t => nmS x ∧ t.ok ps ∧ t.deep ≤ 4
  | .use x q ws ts => nmS x ∧ nmS q ∧ (∀ w ∈ ws, useW ps w) ∧ ∀ t ∈ ts, t.ok ps ∧ t.deep ≤ 4
  | .tab x w ns => nmS x ∧ wOk3 ps w ∧ ns.length ≤ 32 ∧ ∀ n ∈ ns, 0 ≤ n ∧ n < 2 ^ 64
  | .mem x w size a b c => nmS x ∧ wOk3 ps w ∧ (1 ≤ size ∧ size ≤ 32) ∧ (a.ok ps ∧ a.deep ≤ 4) ∧ (b.ok ps ∧ b.deep ≤ 4) ∧ c.ok ps ∧ c.deep ≤ 4
/-- a head with its terms -/
inductive Cp : Hd → Y.Row → Prop
  | inn (x w) : Cp (.inn x w) (.inn x w)
  | rest (x w n t) : Cp (.rest x w n) (.rest x w n t)
  | tab (x w ns) : Cp (.tab x w ns) (.tab x w ns)
  | mem (x w n a b c) : Cp (.mem x w n) (.mem x w n a b c)
/-- a step of a part's drawing: an out or a wire with its let, or a use -/
inductive St where
  | lt (b : Bool) (x : Str) (w : Wd) (t : Trm)
  | us (x : Str) (pt : Y.Part) (ws : List Wd) (ts : List Trm)
def St.rows : St → List Y.Row
  | .lt b x w t => [ow b x w, .let_ x t]
  | .us x pt ws ts => [.use x pt.name ws ts]
def St.x : St → Str
  | .lt _ x _ _ | .us x _ _ _ => x
def St.words : St → List Str
  | .lt _ x _ _ => [x]
  | .us x pt _ _ => (outsOf pt).map fun o => x ++ Str.ofString "." ++ o
def St.asks : St → List Str
  | .lt _ _ _ t => t.names
  | .us _ _ _ ts => ts.flatMap Trm.names
def St.ok (yd : Yard) (ps : List Str) : St → Prop
  | .lt _ x w t => nmS x ∧ wOk3 ps w ∧ t.ok ps ∧ t.deep ≤ 4
  | .us x pt ws ts => pt ∈ yd ∧ nmS x ∧ ws.length = pt.params.length ∧ (∀ w ∈ ws, useW ps w) ∧ ts.length = (insOf pt).length ∧ ∀ t ∈ ts, t.ok ps ∧ t.deep ≤ 4
/-- each step asks what the heads and the steps ahead of it tell -/
def OrdOk (W0 : List Str) (sts : List St) : Prop := ∀ (i : Nat) s, sts[i]? = some s → ∀ n ∈ s.asks, n ∈ W0 ++ (sts.take i).flatMap St.words
def St.isU : St → Bool
  | .lt .. => false
  | .us .. => true
structure Made (yd : Yard) (zs ps : List Str) (nm : Str) (pt : Y.Part) (hds : List Hd) (hr : List Y.Row) (sts : List St) : Prop where
  nm_ : pt.name = nm
  ps_ : pt.params = ps
  perm : pt.rows.Perm (sts.flatMap St.rows ++ hr)
  names : hds.map Hd.x ++ sts.map St.x = zs.take (hds.length + sts.length)
  hl : hds.length ≤ 7
  sl : 1 ≤ sts.length ∧ sts.length ≤ 6
  uc : (sts.filter St.isU).length ≤ 2
  cl : hr.length = hds.length
  cp : ∀ (i : Nat) h r, hds[i]? = some h → hr[i]? = some r → Cp h r
  hok : ∀ h ∈ hds, h.ok ps
  rok : ∀ r ∈ hr, rowOk ps r
  sok : ∀ s ∈ sts, s.ok yd ps
  ord : OrdOk (wsN (wsH hds)) sts
def sp_L_part (K : PySem.W.Frag) : Sp := fun vs H Q _ => ∃ (d a pl p nl : Addr) (ns : List Int) (k : Nat) (ps zs : List Str) (nm : Str) (yd : Yard), vs = [.ref d, .ref pl, .str nm, .ref p, .ref nl] ∧ (Dr K H d a ns k ∧ k ≤ 50000) ∧ (PtsAt H pl yd ∧ (∀ pt ∈ yd, PU pt) ∧ pl ≠ d ∧ yd.length ≤ 4) ∧ nmS nm ∧ (PsL H p ps ∧ p ≠ d) ∧ (H nl = some (.lst (zs.map V.str)) ∧ zs.length = 16 ∧ ∀ z ∈ zs, nmS z) ∧ ∀ (u : V) (H' : Hp) (pt : Y.Part) (hds : List Hd) (hr : List Y.Row) (sts : List St) (k' : Nat), Made yd zs ps nm pt hds hr sts → PartAt H' u pt → Dr K H' d a ns k' → k' ≤ k + 14000 → But [d] H H' → Q u H'

structure YardOk (y : Yard) : Prop where
  ne : 1 ≤ y.length ∧ y.length ≤ 4
  nd : (y.map Y.Part.name).Nodup
  main : ∀ (i : Nat) pt, y[i]? = some pt → i + 1 = y.length → pt.params = []
  md : ∀ (i : Nat) pt, y[i]? = some pt → ∃ zs hds hr sts, Made (y.take i) zs pt.params pt.name pt hds hr sts ∧ zs.Nodup ∧ zs.length = 16 ∧ ∀ z ∈ zs, nmS z
  pu : ∀ pt ∈ y, PU pt
def sp_L_yard (K : PySem.W.Frag) : Sp := fun vs H Q _ => ∃ (a : Addr) (ns : List Int), vs = [.ref a] ∧ SqL K H a (ns.map V.int) ∧ ∀ (t : Addr) (H' : Hp) (y : Yard) (us : List V), YardOk y → H' t = some (.tup us) → PtAll H' us y → Ex H H' → Q (.ref t) H'

def sp_kids_of (K : PySem.W.Frag) : Sp := fun vs H Q _ => ∃ (v : V) (t : Trm), vs = [v] ∧ Tu H v t.d ∧ ∀ (r : Addr) (H' : Hp) (us : List V), H r = none → Ex H H' → H' r = some (.lst us) → TuAll H' us (t.kids.map Trm.d) → Q (.ref r) H'

def sp_p_names_in (K : PySem.W.Frag) (n : Nat) : Sp := fun vs H Q _ => ∃ (v : V) (t : Trm) (ps : List Str), vs = [v] ∧ Tu H v t.d ∧ (t.ok ps ∧ t.deep < n ∧ n ≤ 8) ∧ RetL (t.names.map V.str) H Q

/-- each once -/
def dd : List Str → List Str → List Str
  | acc, [] => acc
  | acc, x :: l => dd (if x ∈ acc then acc else acc ++ [x]) l
def askL (path : Str) (t : Trm) : List Str := dd [] (t.names.map fun x => path ++ x)
def sp_p_asked_by (K : PySem.W.Frag) : Sp := fun vs H Q _ => ∃ (v : V) (t : Trm) (path : Str) (ps : List Str), vs = [v, .str path] ∧ Tu H v t.d ∧ (t.ok ps ∧ t.deep < 8 ∧ ∀ z ∈ ps, nmS z) ∧ okT path 200 ∧ RetL ((askL path t).map V.str) H Q
def sp_names_told (K : PySem.W.Frag) : Sp := fun vs H Q _ => ∃ (v : V) (pt : Y.Part) (z : Str), vs = [v, .str z] ∧ PartAt H v pt ∧ PU pt ∧ RetL (((pt.rows.filter fun r => decide (rk r = z)).map rx).map V.str) H Q

def sp_L_kids (K : PySem.W.Frag) : Sp := fun vs H Q _ => ∃ (v : V) (t : Trm), vs = [v] ∧ Tu H v t.d ∧ ∀ (r : Addr) (H' : Hp) (us : List V), H r = none → Ex H H' → H' r = some (.lst us) → TuAll H' us (t.kids.map Trm.d) → Q (.ref r) H'

def sp_L_terms (K : PySem.W.Frag) : Sp := fun vs H Q _ => ∃ (v : V) (row : Y.Row), vs = [v] ∧ Tu H v row.d ∧ ∀ (r : Addr) (H' : Hp) (us : List V), H r = none → Ex H H' → H' r = some (.lst us) → TuAll H' us (row.terms.map Trm.d) → Q (.ref r) H'

def tsz : Trm → Nat
  | .num .. | .name _ | .of_ .. => 1
  | .at_ _ t | .not_ t | .cut t .. | .fill t _ => tsz t + 1
  | .two _ a b | .join a b => tsz a + tsz b + 1
  | .pick a b c => tsz a + tsz b + tsz c + 1
def sp_L_asked (K : PySem.W.Frag) : Sp := fun vs H Q _ => ∃ (v : V) (t : Trm) (path : Str) (ps : List Str), vs = [v, .str path] ∧ Tu H v t.d ∧ (t.ok ps ∧ t.deep < 8 ∧ ∀ z ∈ ps, nmS z) ∧ okT path 200 ∧ RetL ((askL path t).map V.str) H Q

def fnd (y : Yard) (q : Str) : Option Y.Part := y.find? fun p => decide (p.name = q)
/-- the walk: paths and parts -/
def wlk (y : Yard) : Nat → Str → Y.Part → List (Str × Y.Part)
  | 0, _, _ => []
  | n + 1, path, pt => (path, pt) :: pt.rows.flatMap fun r => match r with
    | .use x q _ _ => match fnd y q with
      | some p => wlk y n (path ++ x ++ Str.ofString ".") p
      | none => []
    | _ => []
def WAt (H : Hp) (v : V) (e : Str × Y.Part) : Prop := ∃ b vp, v = .ref b ∧ H b = some (.tup [.str e.1, vp]) ∧ PartAt H vp e.2
def W2 (H : Hp) : List V → List (Str × Y.Part) → Prop
  | [], [] => True
  | v :: vs, e :: es => WAt H v e ∧ W2 H vs es
  | _, _ => False
def sp_L_walked (K : PySem.W.Frag) (n : Nat) : Sp := fun vs H Q _ => ∃ (ty fl : Addr) (vp : V) (path : Str) (y : Yard) (us fs : List V) (k : Nat) (pt : Y.Part) (es : List (Str × Y.Part)), vs = [.ref ty, vp, .str path, .ref fl] ∧ YardOk y ∧ (H ty = some (.tup us) ∧ PtAll H us y) ∧ (y[k]? = some pt ∧ k < n ∧ k ≤ 3) ∧ PartAt H vp pt ∧ okT path (21 * (3 - k)) ∧ (H fl = some (.lst fs) ∧ W2 H fs es ∧ fs.length + 31 ^ (k + 1) ≤ 4000000) ∧ ∀ (H' : Hp) (fs' : List V), H' fl = some (.lst fs') → W2 H' fs' (es ++ wlk y n path pt) → fs'.length ≤ fs.length + 31 ^ (k + 1) → But [fl] H H' → Q (.ref fl) H'

def ByName (us : List V) (y : Yard) (kvs : List (Key × V)) (n : Nat) : Prop := ∀ (i : Nat) v pt, i < n → us[i]? = some v → y[i]? = some pt → valV kvs (Sum.inr pt.name) = some v
def sp_parts_by_name (K : PySem.W.Frag) : Sp := fun vs H Q _ => ∃ (ty : Addr) (y : Yard) (us : List V), vs = [.ref ty] ∧ YardOk y ∧ H ty = some (.tup us) ∧ PtAll H us y ∧ ∀ (d : Addr) (H' : Hp) (kvs : List (Key × V)), H d = none → Ex H H' → H' d = some (.dK kvs) → ByName us y kvs us.length → Q (.ref d) H'
/-- what a width comes to -/
def wv (kvs : List (Key × V)) (w : Wd) : Int := if w.1 = Str.ofString "" then w.2 else (match valV kvs (Sum.inr w.1) with | some (.int i) => i | _ => 0) + w.2
def wKn (kvs : List (Key × V)) (w : Wd) : Prop := (w.1 ≠ Str.ofString "" → ∃ i : Int, valV kvs (Sum.inr w.1) = some (.int i) ∧ -1000 ≤ i ∧ i ≤ 1000) ∧ -1000 ≤ w.2 ∧ w.2 ≤ 1000
def sp_width_number (K : PySem.W.Frag) : Sp := fun vs H Q _ => ∃ (v : V) (dn : Addr) (w : Wd) (kvs : List (Key × V)), vs = [v, .ref dn] ∧ Tu H v (wdD w) ∧ H dn = some (.dK kvs) ∧ wKn kvs w ∧ RetV (.int (wv kvs w)) H Q
def sp_width_numbers (K : PySem.W.Frag) : Sp := fun vs H Q _ => ∃ (t dn : Addr) (ws : List Wd) (xs : List V) (kvs : List (Key × V)), vs = [.ref t, .ref dn] ∧ H t = some (.tup xs) ∧ TuAll H xs (ws.map wdD) ∧ H dn = some (.dK kvs) ∧ (∀ w ∈ ws, wKn kvs w) ∧ ws.length ≤ 10 ∧ ∀ (l : Addr) (H' : Hp), H l = none → Ex H H' → H' l = some (.tup ((ws.map (wv kvs)).map V.int)) → Q (.ref l) H'

def kvN (ps : List Str) (ms : List Int) : List (Key × V) := mergeK [] ((ps.zip (ms.map V.int)).map fun x => ((Sum.inr x.1 : Key), x.2))
/-- the made parts: path, name, numbers -/
def mds (y : Yard) : Nat → Str → Y.Part → List Int → List (Str × Str × List Int)
  | 0, _, _, _ => []
  | n + 1, path, pt, ms => (path, pt.name, ms) :: pt.rows.flatMap fun r => match r with
    | .use x q ws _ => match fnd y q with
      | some p => mds y n (path ++ x ++ Str.ofString ".") p (ws.map (wv (kvN pt.params ms)))
      | none => []
    | _ => []
def mdD (e : Str × Str × List Int) : PyData := .tuple [.str e.1, .str e.2.1, .tuple (e.2.2.map PyData.int)]
def msOk (pt : Y.Part) (ms : List Int) : Prop := ms.length = pt.params.length ∧ ∀ m ∈ ms, 4 ≤ m ∧ m ≤ 59
def sp_p_made_from (K : PySem.W.Frag) (n : Nat) : Sp := fun vs H Q _ => ∃ (dp tn : Addr) (path : Str) (y : Yard) (us : List V) (kvs : List (Key × V)) (k : Nat) (pt : Y.Part) (ms : List Int), vs = [.ref dp, .str path, .str pt.name, .ref tn] ∧ YardOk y ∧ (H dp = some (.dK kvs) ∧ ByName us y kvs us.length ∧ PtAll H us y) ∧ (y[k]? = some pt ∧ k < n ∧ k ≤ 3) ∧ okT path (21 * (3 - k)) ∧ H tn = some (.tup (ms.map V.int)) ∧ msOk pt ms ∧ ∀ (r : Addr) (H' : Hp) (ls : List V), H r = none → H' r = some (.lst ls) → TuAll H' ls ((mds y n path pt ms).map mdD) → ls.length ≤ 31 ^ (k + 1) → Ex H H' → Q (.ref r) H'

def sp_made_parts (K : PySem.W.Frag) : Sp := fun vs H Q _ => ∃ (ty : Addr) (y : Yard) (us : List V) (k : Nat) (pt : Y.Part), vs = [.ref ty] ∧ YardOk y ∧ H ty = some (.tup us) ∧ PtAll H us y ∧ (y[k]? = some pt ∧ k + 1 = y.length) ∧ ∀ (l : Addr) (H' : Hp) (ls : List V), H l = none → Ex H H' → H' l = some (.tup ls) → TuAll H' ls ((mds y 6 (Str.ofString "") pt []).map mdD) → ls.length ≤ 31 ^ (k + 1) → Q (.ref l) H'

def sp_L_numbers (K : PySem.W.Frag) (n : Nat) : Sp := fun vs H Q _ => ∃ (ty tn fl : Addr) (vp : V) (path : Str) (y : Yard) (us fs : List V) (k : Nat) (pt : Y.Part) (ms : List Int) (es : List (Str × Str × List Int)), vs = [.ref ty, vp, .str path, .ref tn, .ref fl] ∧ YardOk y ∧ (H ty = some (.tup us) ∧ PtAll H us y) ∧ (y[k]? = some pt ∧ k < n ∧ k ≤ 3) ∧ PartAt H vp pt ∧ okT path (21 * (3 - k)) ∧ H tn = some (.tup (ms.map V.int)) ∧ msOk pt ms ∧ (H fl = some (.lst fs) ∧ TuAll H fs (es.map mdD) ∧ fs.length + 31 ^ (k + 1) ≤ 4000000) ∧ ∀ (H' : Hp) (fs' : List V), H' fl = some (.lst fs') → TuAll H' fs' ((es ++ mds y n path pt ms).map mdD) → fs'.length ≤ fs.length + 31 ^ (k + 1) → But [fl] H H' → Q (.ref fl) H'

/-! what asks what -/
def rowA (y : Yard) (path : Str) (r : Y.Row) : List (Str × List Str) := match r with
  | .let_ x t => [(path ++ x, askL path t)]
  | .use x q _ ts => match fnd y q with
    | some p => ((insOf p).zip ts).map fun e => (path ++ x ++ Str.ofString "." ++ e.1, askL path e.2)
    | none => []
  | _ => []
abbrev Web : Type := List (Str × List Str)
def asksL (y : Yard) (pt : Y.Part) : Web := (wlk y 6 (Str.ofString "") pt).flatMap fun e => e.2.rows.flatMap (rowA y e.1)
def putW (g : Web) (n : Str) (zs : List Str) : Web := if (g.any fun p => decide (p.1 = n)) = true then g.map (fun p => if p.1 = n then (p.1, zs) else p) else g ++ [(n, zs)]
def foldW (g : Web) (ps : Web) : Web := ps.foldl (fun g p => putW g p.1 p.2) g
def WebF (H0 H : Hp) (kvs : List (Key × V)) (g : Web) : Prop := Paired (fun (kv : Key × V) (p : Str × List Str) => kv.1 = Sum.inr p.1 ∧ ∃ l, kv.2 = .ref l ∧ H0 l = none ∧ H l = some (.lst (p.2.map V.str))) kvs g
def sp_L_asks (K : PySem.W.Frag) : Sp := fun vs H Q _ => ∃ (ty : Addr) (y : Yard) (us : List V) (k : Nat) (pt : Y.Part), vs = [.ref ty] ∧ YardOk y ∧ H ty = some (.tup us) ∧ PtAll H us y ∧ (y[k]? = some pt ∧ k + 1 = y.length) ∧ ∀ (d : Addr) (H' : Hp) (kvs : List (Key × V)), H d = none → Ex H H' → H' d = some (.dK kvs) → WebF H H' kvs (foldW [] (asksL y pt)) → Q (.ref d) H'
def sp_asks_of (K : PySem.W.Frag) : Sp := fun vs H Q _ => ∃ (ty : Addr) (y : Yard) (us : List V) (k : Nat) (pt : Y.Part), vs = [.ref ty] ∧ YardOk y ∧ H ty = some (.tup us) ∧ PtAll H us y ∧ (y[k]? = some pt ∧ k + 1 = y.length) ∧ ∀ (d : Addr) (H' : Hp) (kvs : List (Key × V)), H d = none → Ex H H' → H' d = some (.dK kvs) → WebF H H' kvs (foldW [] (asksL y pt)) → Q (.ref d) H'
/-! rings -/
def getW (g : Web) (n : Str) : List Str := ((g.find? fun p => decide (p.1 = n)).map (·.2)).getD []
/-- a web in a dict: names to lists of names -/
def WebKV (K : PySem.W.Frag) (H : Hp) (kvs : List (Key × V)) (g : Web) : Prop := Paired (fun (kv : Key × V) (p : Str × List Str) => kv.1 = Sum.inr p.1 ∧ ∃ l, kv.2 = .ref l ∧ SqL K H l (p.2.map V.str)) kvs g
theorem web_hk (g : Web) : ∀ n, n ∉ g.map (·.1) → getW g n = [] := fun n hn => by
  unfold getW
  have : g.find? (fun p => decide (p.1 = n)) = none := List.find?_eq_none.mpr fun p hp z => hn (List.mem_map.mpr ⟨p, hp, of_decide_eq_true z⟩)
  rw [this] <;> rfl
/-- what is done, as keys of a dict -/
def Dn (dk : List (Key × V)) (ds : List Str) : Prop := ∀ n : Str, (valV dk (Sum.inr n)).isSome = decide (n ∈ ds)
abbrev rFrom (g : Web) (n : Str) (ds : List Str) : Option (List Str) × List Str := M18.ringFrom (getW g) (g.map (·.1)) (web_hk g) n ds
def RetRing (r : Option (List Str)) (H : Hp) (Q : VK) : Prop := match r with
  | none => Q .non H
  | some x => ∀ p H2, H p = none → Ex H H2 → H2 p = some (.lst (x.map V.str)) → Q (.ref p) H2
def sp_p_ring_from (K : PySem.W.Frag) : Sp := fun vs H Q _ => ∃ (s : Str) (a d : Addr) (g : Web) (kvs dk : List (Key × V)) (ds : List Str), vs = [.str s, .ref a, .ref d] ∧ Rd H a (.dK kvs) ∧ WebKV K H kvs g ∧ ((∀ p ∈ g, p.2.length ≤ 30) ∧ g.length ≤ 300) ∧ a ≠ d ∧ H d = some (.dK dk) ∧ Dn dk ds ∧ dk.length ≤ 8000000 ∧ ∀ H' dk', But [d] H H' → H' d = some (.dK dk') → Dn dk' (rFrom g s ds).2 → dk'.length ≤ dk.length + 20000 → RetRing (rFrom g s ds).1 H' Q
abbrev ringAll (g : Web) : Option (List Str) := M18.ringL (getW g) (g.map (·.1)) (web_hk g) (g.map (·.1)) []
def RetRO (r : Option (List Str)) (H : Hp) (Q : VK) : Prop := match r with
  | none => RetV .non H Q
  | some x => RetL (x.map V.str) H Q
def sp_ring_in (K : PySem.W.Frag) : Sp := fun vs H Q _ => ∃ (a : Addr) (g : Web) (kvs : List (Key × V)), vs = [.ref a] ∧ H a = some (.dK kvs) ∧ WebKV K H kvs g ∧ ((∀ p ∈ g, p.2.length ≤ 30) ∧ g.length ≤ 300) ∧ RetRO (ringAll g) H Q
/-! widths -/
def rww : Y.Row → Option Wd
  | .inn _ w | .out _ w | .wire _ w | .rest _ w _ _ | .tab _ w _ | .mem _ w _ _ _ _ => some w
  | _ => none
def widL (pt : Y.Part) (ms : List Int) : List (Str × Int) := pt.rows.filterMap fun r => (rww r).map fun w => (rx r, wv (kvN pt.params ms) w)
def widK (l : List (Str × Int)) : List (Key × V) := l.foldl (fun kvs e => putK kvs (Sum.inr e.1) (.int e.2)) []
structure RowsOk (pt : Y.Part) : Prop where
  pu : PU pt
  ok : ∀ r ∈ pt.rows, rowOk pt.params r
def sp_widths_in (K : PySem.W.Frag) : Sp := fun vs H Q _ => ∃ (v : V) (tn : Addr) (pt : Y.Part) (ms : List Int), vs = [v, .ref tn] ∧ PartAt H v pt ∧ RowsOk pt ∧ H tn = some (.tup (ms.map V.int)) ∧ msOk pt ms ∧ ∀ (d : Addr) (H' : Hp), H d = none → Ex H H' → H' d = some (.dK (widK (widL pt ms))) → Q (.ref d) H'
def sp_L_widths_right (K : PySem.W.Frag) : Sp := fun vs H Q _ => ∃ (v : V) (tn : Addr) (pt : Y.Part) (ms : List Int), vs = [v, .ref tn] ∧ PartAt H v pt ∧ RowsOk pt ∧ H tn = some (.tup (ms.map V.int)) ∧ msOk pt ms ∧ RetV (.bl true) H Q
def sp_L_kids_right (K : PySem.W.Frag) (n : Nat) : Sp := fun vs H Q _ => ∃ (v : V) (t : Trm) (ps : List Str), vs = [v] ∧ Tu H v t.d ∧ (t.ok ps ∧ (∀ z ∈ ps, nmS z) ∧ t.deep ≤ 5 ∧ t.deep < n) ∧ RetV (.bl true) H Q
def sp_law (K : PySem.W.Frag) : Sp := fun vs H Q _ => ∃ (a : Addr) (ns : List Int), vs = [.ref a] ∧ SqL K H a (ns.map V.int) ∧ ns.length ≤ 63 ∧ RetV (.bl true) H Q

theorem len_L_mixed : ∀ vs H Q E, sp_L_mixed vs H Q E → vs.length = 2 := by
  intro vs H Q E h
  obtain ⟨_, _, rfl, _⟩ := h
  rfl
theorem len_L_names {K : PySem.W.Frag} : ∀ vs H Q E, sp_L_names K vs H Q E → vs.length = 1 := by
  intro vs H Q E h
  obtain ⟨_, rfl, _⟩ := h
  rfl
theorem len_L_cell {K : PySem.W.Frag} : ∀ vs H Q E, sp_L_cell K vs H Q E → vs.length = 2 := by
  intro vs H Q E h
  obtain ⟨_, _, _, rfl, _⟩ := h
  rfl
theorem len_L_next {K : PySem.W.Frag} : ∀ vs H Q E, sp_L_next K vs H Q E → vs.length = 1 := by
  intro vs H Q E h
  obtain ⟨_, _, _, _, rfl, _⟩ := h
  rfl
theorem len_L_width {K : PySem.W.Frag} : ∀ vs H Q E, sp_L_width K vs H Q E → vs.length = 2 := by
  intro vs H Q E h
  obtain ⟨_, _, _, _, _, _, rfl, _⟩ := h
  rfl
theorem len_L_word : ∀ vs H Q E, sp_L_word vs H Q E → vs.length = 2 := by
  intro vs H Q E h
  obtain ⟨_, _, rfl, _⟩ := h
  rfl
theorem len_L_first {K : PySem.W.Frag} : ∀ vs H Q E, sp_L_first K vs H Q E → vs.length = 2 := by
  intro vs H Q E h
  obtain ⟨_, _, _, rfl, _⟩ := h
  rfl
theorem len_L_heads {K : PySem.W.Frag} : ∀ vs H Q E, sp_L_heads K vs H Q E → vs.length = 4 := by
  intro vs H Q E h
  obtain ⟨_, _, _, _, _, _, _, _, _, _, _, rfl, _⟩ := h
  rfl
theorem len_L_leaf {K : PySem.W.Frag} : ∀ vs H Q E, sp_L_leaf K vs H Q E → vs.length = 3 := by
  intro vs H Q E h
  obtain ⟨_, _, _, _, _, _, _, _, _, rfl, _⟩ := h
  rfl
theorem len_L_bent {K : PySem.W.Frag} {n : Nat} : ∀ vs H Q E, sp_L_bent K n vs H Q E → vs.length = 5 := by
  intro vs H Q E h
  obtain ⟨_, _, _, _, _, _, _, _, _, _, _, _, _, _, rfl, _⟩ := h
  rfl
theorem len_L_term {K : PySem.W.Frag} {n : Nat} : ∀ vs H Q E, sp_L_term K n vs H Q E → vs.length = 4 := by
  intro vs H Q E h
  obtain ⟨_, _, _, _, _, _, _, _, _, _, _, _, _, rfl, _⟩ := h
  rfl
theorem len_L_used {K : PySem.W.Frag} : ∀ vs H Q E, sp_L_used K vs H Q E → vs.length = 5 := by
  intro vs H Q E h
  obtain ⟨_, _, _, _, _, _, _, _, _, _, _, _, _, _, rfl, _⟩ := h
  rfl
theorem len_L_wired {K : PySem.W.Frag} : ∀ vs H Q E, sp_L_wired K vs H Q E → vs.length = 5 := by
  intro vs H Q E h
  obtain ⟨_, _, _, _, _, _, _, _, _, _, _, _, _, rfl, _⟩ := h
  rfl
theorem len_L_part {K : PySem.W.Frag} : ∀ vs H Q E, sp_L_part K vs H Q E → vs.length = 5 := by
  intro vs H Q E h
  obtain ⟨_, _, _, _, _, _, _, _, _, _, _, rfl, _⟩ := h
  rfl
theorem len_L_yard {K : PySem.W.Frag} : ∀ vs H Q E, sp_L_yard K vs H Q E → vs.length = 1 := by
  intro vs H Q E h
  obtain ⟨_, _, rfl, _⟩ := h
  rfl
theorem len_L_numbers {K : PySem.W.Frag} {n : Nat} : ∀ vs H Q E, sp_L_numbers K n vs H Q E → vs.length = 5 := by
  intro vs H Q E h
  obtain ⟨_, _, _, _, _, _, _, _, _, _, _, _, rfl, _⟩ := h
  rfl
theorem len_L_walked {K : PySem.W.Frag} {n : Nat} : ∀ vs H Q E, sp_L_walked K n vs H Q E → vs.length = 4 := by
  intro vs H Q E h
  obtain ⟨_, _, _, _, _, _, _, _, _, _, rfl, _⟩ := h
  rfl
theorem len_L_kids {K : PySem.W.Frag} : ∀ vs H Q E, sp_L_kids K vs H Q E → vs.length = 1 := by
  intro vs H Q E h
  obtain ⟨_, _, rfl, _⟩ := h
  rfl
theorem len_L_asked {K : PySem.W.Frag} : ∀ vs H Q E, sp_L_asked K vs H Q E → vs.length = 2 := by
  intro vs H Q E h
  obtain ⟨_, _, _, _, rfl, _⟩ := h
  rfl
theorem len_L_asks {K : PySem.W.Frag} : ∀ vs H Q E, sp_L_asks K vs H Q E → vs.length = 1 := by
  intro vs H Q E h
  obtain ⟨_, _, _, _, _, rfl, _⟩ := h
  rfl
theorem len_width_number {K : PySem.W.Frag} : ∀ vs H Q E, sp_width_number K vs H Q E → vs.length = 2 := by
  intro vs H Q E h
  obtain ⟨_, _, _, _, rfl, _⟩ := h
  rfl
theorem len_width_numbers {K : PySem.W.Frag} : ∀ vs H Q E, sp_width_numbers K vs H Q E → vs.length = 2 := by
  intro vs H Q E h
  obtain ⟨_, _, _, _, _, rfl, _⟩ := h
  rfl
theorem len_p_made_from {K : PySem.W.Frag} {n : Nat} : ∀ vs H Q E, sp_p_made_from K n vs H Q E → vs.length = 4 := by
  intro vs H Q E h
  obtain ⟨_, _, _, _, _, _, _, _, _, rfl, _⟩ := h
  rfl
theorem len_parts_by_name {K : PySem.W.Frag} : ∀ vs H Q E, sp_parts_by_name K vs H Q E → vs.length = 1 := by
  intro vs H Q E h
  obtain ⟨_, _, _, rfl, _⟩ := h
  rfl
theorem len_made_parts {K : PySem.W.Frag} : ∀ vs H Q E, sp_made_parts K vs H Q E → vs.length = 1 := by
  intro vs H Q E h
  obtain ⟨_, _, _, _, _, rfl, _⟩ := h
  rfl
theorem len_kids_of {K : PySem.W.Frag} : ∀ vs H Q E, sp_kids_of K vs H Q E → vs.length = 1 := by
  intro vs H Q E h
  obtain ⟨_, _, rfl, _⟩ := h
  rfl
theorem len_p_names_in {K : PySem.W.Frag} {n : Nat} : ∀ vs H Q E, sp_p_names_in K n vs H Q E → vs.length = 1 := by
  intro vs H Q E h
  obtain ⟨_, _, _, rfl, _⟩ := h
  rfl
theorem len_p_asked_by {K : PySem.W.Frag} : ∀ vs H Q E, sp_p_asked_by K vs H Q E → vs.length = 2 := by
  intro vs H Q E h
  obtain ⟨_, _, _, _, rfl, _⟩ := h
  rfl
theorem len_names_told {K : PySem.W.Frag} : ∀ vs H Q E, sp_names_told K vs H Q E → vs.length = 2 := by
  intro vs H Q E h
  obtain ⟨_, _, _, rfl, _⟩ := h
  rfl
theorem len_asks_of {K : PySem.W.Frag} : ∀ vs H Q E, sp_asks_of K vs H Q E → vs.length = 1 := by
  intro vs H Q E h
  obtain ⟨_, _, _, _, _, rfl, _⟩ := h
  rfl
theorem len_p_ring_from {K : PySem.W.Frag} : ∀ vs H Q E, sp_p_ring_from K vs H Q E → vs.length = 3 := by
  intro vs H Q E h
  obtain ⟨_, _, _, _, _, _, _, rfl, _⟩ := h
  rfl
theorem len_ring_in {K : PySem.W.Frag} : ∀ vs H Q E, sp_ring_in K vs H Q E → vs.length = 1 := by
  intro vs H Q E h
  obtain ⟨_, _, _, rfl, _⟩ := h
  rfl
theorem len_widths_in {K : PySem.W.Frag} : ∀ vs H Q E, sp_widths_in K vs H Q E → vs.length = 2 := by
  intro vs H Q E h
  obtain ⟨_, _, _, _, rfl, _⟩ := h
  rfl
theorem len_L_widths_right {K : PySem.W.Frag} : ∀ vs H Q E, sp_L_widths_right K vs H Q E → vs.length = 2 := by
  intro vs H Q E h
  obtain ⟨_, _, _, _, rfl, _⟩ := h
  rfl
theorem len_L_terms {K : PySem.W.Frag} : ∀ vs H Q E, sp_L_terms K vs H Q E → vs.length = 1 := by
  intro vs H Q E h
  obtain ⟨_, _, rfl, _⟩ := h
  rfl
theorem len_L_kids_right {K : PySem.W.Frag} {n : Nat} : ∀ vs H Q E, sp_L_kids_right K n vs H Q E → vs.length = 1 := by
  intro vs H Q E h
  obtain ⟨_, _, _, rfl, _⟩ := h
  rfl
theorem len_law {K : PySem.W.Frag} : ∀ vs H Q E, sp_law K vs H Q E → vs.length = 1 := by
  intro vs H Q E h
  obtain ⟨_, _, rfl, _⟩ := h
  rfl

/-- L_mixed -/
def rd_L_mixed : TS :=
  (tRet (tOp rDivI (tOp rModI (tOp rMulI (tOp rModI (tOp rMulI (tOp rAddI (tOp rAddI (tOp rAddI (tVar 0) (tOp rMulI (tOp rMulI (tC (.int 7919)) (tVar 1)) (tVar 1))) (tOp rMulI (tC (.int 31)) (tVar 1))) (tC (.int 1))) (tC (.int 48271))) (tC (.int 2147483647))) (tC (.int 69621))) (tC (.int 2147483629))) (tC (.int 64))))


/-- L_names -/
def rd_L_names (K : PySem.W.Frag) : TS :=
  (tSeq (tAsg (tC (.str "abcdefghijklmnopqrstuvwxyz")) (gName 1))
    (tSeq (tAsg (tBM K "str" (rJoin K) (tC (.str "")) (tCons (tLc (iRng1 (tCons (tC (.int 8)) tNil)) (gName 11) tYes (tOp rIxS (tVar 1) (tOp rModI (tCall sp_L_mixed [] E0 (tCons (tVar 0) (tCons (tVar 11) tNil))) (tC (.int 26)))) [11]) tNil)) (gName 2))
    (Evl.tCut (tIfS (tTest (tOp rLtI (tOp rModI (tVar 0) (tC (.int 4))) (tC (.int 2)))) (tSeq (tAsg (tOp rAddI (tC (.int 2)) (tOp rModI (tOp rDivI (tVar 0) (tC (.int 4))) (tC (.int 7)))) (gName 3))
    (tSeq (tAsg (tOp rModI (tOp rDivI (tVar 0) (tC (.int 32))) (tVar 3)) (gName 4))
    (Evl.tCut (tAsg (tIf (tTest (tOp rEq (tVar 4) (tC (.int 0)))) (tVar 1) (tOp rAddStr (tVar 1) (tC (.str "0123456789")))) (gName 5))
    (tSeq (tAsg (tLc (iRng1 (tCons (tC (.int 16)) tNil)) (gName 12) tYes (tOp rIxS (tVar 5) (tOp rModI (tOp rAddI (tOp rDivI (tVar 0) (tC (.int 256))) (tOp rMulI (tC (.int 5)) (tVar 12))) (tCB cLenStr (tCons (tVar 5) tNil)))) [12]) (gName 6))
    (tAsg (tLc (iList K (tVar 6)) (gName 13) tYes (tOp rAddStr (tOp rAddStr (tSl rSlS (tVar 2) tNoPart (tPart (tVar 4))) (tVar 13)) (tSl rSlS (tVar 2) (tPart (tOp rAddI (tVar 4) (tC (.int 1)))) (tPart (tVar 3)))) [13]) (gName 7))))))
    (tIfS (tTest (tOp rEq (tOp rModI (tVar 0) (tC (.int 4))) (tC (.int 2)))) (tSeq (tAsg (tOp rAddI (tOp rAddI (tBM K "str" rIndexS (tVar 1) (tCons (tOp rIxS (tVar 2) (tC (.int 0))) tNil)) (tC (.int 1))) (tOp rModI (tOp rDivI (tVar 0) (tC (.int 4))) (tC (.int 25)))) (gName 8))
    (tSeq (tAsg (tOp rAddStr (tOp rIxS (tVar 1) (tOp rModI (tVar 8) (tC (.int 26)))) (tSl rSlS (tVar 2) (tPart (tC (.int 1))) tNoPart)) (gName 9))
    (tSeq (tAsg (tLc (iRng1 (tCons (tC (.int 8)) tNil)) (gName 12) tYes (tSl rSlS (tVar 2) tNoPart (tPart (tOp rAddI (tVar 12) (tC (.int 1))))) [12]) (gName 7))
    (tAsg (tOp rCat (tVar 7) (tLc (iRng1 (tCons (tC (.int 8)) tNil)) (gName 12) tYes (tSl rSlS (tVar 9) tNoPart (tPart (tOp rAddI (tVar 12) (tC (.int 1))))) [12])) (gName 7)))))
    (tAsg (tLc (iRng1 (tCons (tC (.int 16)) tNil)) (gName 12) tYes (tOp rIxS (tVar 1) (tOp rModI (tOp rAddI (tOp rDivI (tVar 0) (tC (.int 4))) (tOp rMulI (tC (.int 7)) (tVar 12))) (tC (.int 26)))) [12]) (gName 7))))
    (tSeq (tAsg (tBM K "str" rSplit (tC (.str "part in out wire rest let use table memory if then else cut join fill")) (tCons (tC (.str " ")) tNil)) (gName 10))
    (tSeq (tIfS (tTest (tOp (rNeD K) (tLc (iList K (tVar 7)) (gName 14) (tTest (tOp (rIn K false) (tVar 14) (tVar 10))) (tVar 14) [14]) (tLst tNil))) (tRet (tLc (iRng1 (tCons (tC (.int 16)) tNil)) (gName 12) tYes (tOp rAddStr (tC (.str "q")) (tOp rIxS (tVar 1) (tVar 12))) [12]))
    tNext)
    (tRet (tVar 7)))))))


/-- L_cell -/
def rd_L_cell (K : PySem.W.Frag) : TS :=
  (tSeq (tAsg (tC (.int 17)) (gName 2))
    (tSeq (tIfS (tTest (tOp rGtI (tCB (cLenSeq K) (tCons (tVar 0) tNil)) (tC (.int 0)))) (tAsg (tOp rModI (tOp (rIxL K) (tVar 0) (tOp rModI (tVar 1) (tCB (cLenSeq K) (tCons (tVar 0) tNil)))) (tC (.int 2147483647))) (gName 2))
    tNext)
    (tRet (tOp rDivI (tOp rModI (tOp rMulI (tOp rModI (tOp rMulI (tOp rAddI (tOp rAddI (tVar 2) (tOp rMulI (tOp rMulI (tC (.int 7919)) (tVar 1)) (tVar 1))) (tOp rMulI (tC (.int 31)) (tVar 1))) (tC (.int 48271))) (tC (.int 2147483647))) (tC (.int 69621))) (tC (.int 2147483629))) (tC (.int 64))))))


/-- L_next -/
def rd_L_next (K : PySem.W.Frag) : TS :=
  (tSeq (tAsg (tOp rAddI (tOp (rIxL K) (tVar 0) (tC (.int 1))) (tC (.int 1))) (gSub (tVar 0) (tC (.int 1)) rSetL))
    (tRet (tCall (sp_L_cell K) [] E0 (tCons (tOp (rIxL K) (tVar 0) (tC (.int 0))) (tCons (tOp (rIxL K) (tVar 0) (tC (.int 1))) tNil)))))


/-- L_width -/
def rd_L_width (K : PySem.W.Frag) : TS :=
  (tSeq (tAsg (tCall (sp_L_next K) [] E0 (tCons (tVar 0) tNil)) (gName 2))
    (tSeq (tIfS (tAnd (tTest (tOp (rNeD K) (tVar 1) (tLst tNil))) (tTest (tOp rEq (tOp rModI (tVar 2) (tC (.int 3))) (tC (.int 0))))) (tRet (tTup (tCons (tOp (rIxL K) (tVar 1) (tOp rModI (tOp rDivI (tVar 2) (tC (.int 3))) (tCB (cLenSeq K) (tCons (tVar 1) tNil)))) (tCons (tOp rSubI (tOp rModI (tOp rDivI (tVar 2) (tC (.int 6))) (tC (.int 9))) (tC (.int 3))) tNil))))
    tNext)
    (tRet (tTup (tCons (tC (.str "")) (tCons (tOp (rIxL K) (tLst (tCons (tC (.int 1)) (tCons (tC (.int 1)) (tCons (tC (.int 2)) (tCons (tC (.int 3)) (tCons (tC (.int 4)) (tCons (tC (.int 8)) (tCons (tC (.int 64)) (tCons (tOp rAddI (tC (.int 1)) (tOp rModI (tOp rDivI (tVar 2) (tC (.int 24))) (tC (.int 64)))) tNil))))))))) (tOp rModI (tOp rDivI (tVar 2) (tC (.int 3))) (tC (.int 8)))) tNil))))))


/-- L_word -/
def rd_L_word (K : PySem.W.Frag) : TS :=
  (tSeq (tAsg (tOp rSubI (tOp rShlI (tC (.int 1)) (tVar 1)) (tC (.int 1))) (gName 2))
    (tSeq (tAsg (tC (.int 0)) (gName 3))
    (tSeq (tFor (iRng1 (tCons (tC (.int 3)) tNil)) (gName 4) (tAsg (tOp rOrI (tOp rShlI (tVar 3) (tC (.int 25))) (tCall sp_L_mixed [] E0 (tCons (tVar 0) (tCons (tVar 4) tNil)))) (gName 3)))
    (tSeq (tPar 5 3 (tCons (tOp rAndI (tOp rModI (tVar 3) (tC (.int 4))) (tVar 2)) (tCons (tOp rAndI (tVar 3) (tVar 2)) tNil)))
    (tRet (tOp (rIxL K) (tLst (tCons (tC (.int 0)) (tCons (tVar 2) (tCons (tVar 3) (tCons (tC (.int 1)) (tCons (tVar 3) (tCons (tOp rSubI (tVar 2) (tC (.int 1))) (tCons (tVar 3) (tCons (tVar 5) tNil))))))))) (tOp rModI (tVar 0) (tC (.int 8)))))))))


/-- L_first -/
def rd_L_first (K : PySem.W.Frag) : TS :=
  (tRet (tIf (tTest (tOp rNe (tOp (rIxT K) (tVar 1) (tC (.int 0))) (tC (.str "")))) (tOp rModI (tVar 0) (tC (.int 2))) (tCall sp_L_word [] E0 (tCons (tVar 0) (tCons (tOp (rIxT K) (tVar 1) (tC (.int 1))) tNil)))))


/-- L_heads -/
def rd_L_heads (K : PySem.W.Frag) : TS :=
  (tSeq (tAsg (tCall (sp_L_next K) [] E0 (tCons (tVar 0) tNil)) (gName 4))
    (tSeq (tAsg (tLst tNil) (gName 5))
    (tSeq (tFor (iRng1 (tCons (tOp (rIxL K) (tLst (tCons (tC (.int 1)) (tCons (tC (.int 2)) (tCons (tC (.int 2)) (tCons (tC (.int 3)) (tCons (tC (.int 0)) tNil)))))) (tOp rModI (tVar 4) (tC (.int 5)))) tNil)) (gName 6) (tDrop (tBM K "list" rAppend (tVar 5) (tCons (tTup (tCons (tC (.str "in")) (tCons (tBM K "list" rPopAt (tVar 1) (tCons (tC (.int 0)) tNil)) (tCons (tCall (sp_L_width K) [] E0 (tCons (tVar 0) (tCons (tVar 2) tNil))) tNil)))) tNil))))
    (tSeq (tFor (iRng1 (tCons (tOp (rIxL K) (tLst (tCons (tC (.int 0)) (tCons (tC (.int 1)) (tCons (tC (.int 1)) (tCons (tC (.int 2)) tNil))))) (tOp rModI (tOp rDivI (tVar 4) (tC (.int 5))) (tC (.int 4)))) tNil)) (gName 6) (tSeq (tAsg (tCall (sp_L_width K) [] E0 (tCons (tVar 0) (tCons (tVar 2) tNil))) (gName 7))
    (tDrop (tBM K "list" rAppend (tVar 5) (tCons (tTup (tCons (tC (.str "rest")) (tCons (tBM K "list" rPopAt (tVar 1) (tCons (tC (.int 0)) tNil)) (tCons (tVar 7) (tCons (tCall (sp_L_first K) [] E0 (tCons (tCall (sp_L_next K) [] E0 (tCons (tVar 0) tNil)) (tCons (tVar 7) tNil))) tNil))))) tNil)))))
    (tSeq (tFor (iRng1 (tCons (tOp (rIxL K) (tLst (tCons (tC (.int 0)) (tCons (tC (.int 1)) (tCons (tC (.int 1)) (tCons (tC (.int 2)) tNil))))) (tOp rModI (tOp rDivI (tVar 4) (tC (.int 20))) (tC (.int 4)))) tNil)) (gName 6) (tSeq (tAsg (tCall (sp_L_width K) [] E0 (tCons (tVar 0) (tCons (tVar 2) tNil))) (gName 7))
    (tSeq (tAsg (tCall (sp_L_next K) [] E0 (tCons (tVar 0) tNil)) (gName 8))
    (tSeq (tAsg (tOp rAddI (tOp rAddI (tC (.int 1)) (tOp rModI (tOp rDivI (tVar 8) (tC (.int 3))) (tC (.int 5)))) (tOp rMulI (tC (.int 27)) (tCB cInt1 (tCons (tOp rEq (tOp rModI (tOp rDivI (tVar 8) (tC (.int 15))) (tC (.int 9))) (tC (.int 0))) tNil)))) (gName 9))
    (tIfS (tTest (tOp rEq (tOp rModI (tVar 8) (tC (.int 3))) (tC (.int 1)))) (tSeq (tAsg (tCB (cTupOf K) (tCons (tLc (iRng1 (tCons (tVar 9) tNil)) (gName 12) tYes (tCall (sp_L_first K) [] E0 (tCons (tCall sp_L_mixed [] E0 (tCons (tVar 8) (tCons (tVar 12) tNil))) (tCons (tVar 7) tNil))) [12]) tNil)) (gName 10))
    (tDrop (tBM K "list" rAppend (tVar 5) (tCons (tTup (tCons (tC (.str "table")) (tCons (tBM K "list" rPopAt (tVar 1) (tCons (tC (.int 0)) tNil)) (tCons (tVar 7) (tCons (tVar 10) tNil))))) tNil))))
    (tDrop (tBM K "list" rAppend (tVar 5) (tCons (tTup (tCons (tC (.str "memory")) (tCons (tBM K "list" rPopAt (tVar 1) (tCons (tC (.int 0)) tNil)) (tCons (tVar 7) (tCons (tVar 9) tNil))))) tNil))))))))
    (tSeq (tFor (iList K (tVar 5)) (gName 11) (tIfS (tTest (tOp (rIn K false) (tOp (rIxT K) (tVar 11) (tC (.int 0))) (tTup (tCons (tC (.str "in")) (tCons (tC (.str "rest")) tNil))))) (tDrop (tBM K "list" rAppend (tOp (rIxT K) (tVar 3) (tC (.int 0))) (tCons (tTup (tCons (tTup (tCons (tC (.str "name")) (tCons (tOp (rIxT K) (tVar 11) (tC (.int 1))) tNil))) (tCons (tOp (rIxT K) (tVar 11) (tC (.int 2))) tNil))) tNil)))
    (tDrop (tBM K "list" rAppend (tOp (rIxT K) (tVar 3) (tC (.int 1))) (tCons (tTup (tCons (tOp (rIxT K) (tVar 11) (tC (.int 1))) (tCons (tOp (rIxT K) (tVar 11) (tC (.int 2))) tNil))) tNil)))))
    (tRet (tVar 5))))))))


/-- L_leaf -/
def rd_L_leaf (K : PySem.W.Frag) : TS :=
  (tSeq (tAsg (tCall (sp_L_next K) [] E0 (tCons (tVar 0) tNil)) (gName 3))
    (tSeq (tAsg (tLc (iList K (tVar 1)) (gTup K 2 (gCons (gName 5) (gCons (gName 6) gNil))) (tTest (tOp (rEqD K) (tVar 6) (tVar 2))) (tVar 5) [5, 6]) (gName 4))
    (tSeq (tIfS (tAnd (tTest (tOp (rNeD K) (tVar 4) (tLst tNil))) (tTest (tOp rGtI (tOp rModI (tVar 3) (tC (.int 5))) (tC (.int 0))))) (tRet (tOp (rIxL K) (tVar 4) (tOp rModI (tOp rDivI (tVar 3) (tC (.int 5))) (tCB (cLenSeq K) (tCons (tVar 4) tNil)))))
    tNext)
    (tRet (tTup (tCons (tC (.str "number")) (tCons (tCall (sp_L_first K) [] E0 (tCons (tOp rDivI (tVar 3) (tC (.int 5))) (tCons (tVar 2) tNil))) (tCons (tVar 2) tNil))))))))


/-- L_bent -/
def rd_L_bent (K : PySem.W.Frag) (R_L_term : Sp) : TS :=
  (tSeq (tAsg (tTup (tCons (tC (.str "")) (tCons (tOp rAddI (tC (.int 1)) (tOp rModI (tOp rDivI (tVar 4) (tC (.int 2))) (tC (.int 8)))) tNil))) (gName 5))
    (Evl.tCut (tIfS (tAnd (tTest (tOp rEq (tOp rModI (tVar 4) (tC (.int 2))) (tC (.int 1)))) (tTest (tOp (rNeD K) (tOp (rIxT K) (tVar 1) (tC (.int 0))) (tLst tNil)))) (tAsg (tOp (rIxT K) (tOp (rIxL K) (tOp (rIxT K) (tVar 1) (tC (.int 0))) (tOp rModI (tOp rDivI (tVar 4) (tC (.int 2))) (tCB (cLenSeq K) (tCons (tOp (rIxT K) (tVar 1) (tC (.int 0))) tNil)))) (tC (.int 1))) (gName 5))
    tNext)
    (tSeq (tAsg (tCall R_L_term [] E0 (tCons (tVar 0) (tCons (tVar 1) (tCons (tVar 5) (tCons (tVar 3) tNil))))) (gName 6))
    (tSeq (tIfS (tTest (tOp (rEqD K) (tVar 2) (tTup (tCons (tC (.str "")) (tCons (tC (.int 1)) tNil))))) (tSeq (tIfS (tTest (tOp rEq (tOp rModI (tOp rDivI (tVar 4) (tC (.int 64))) (tC (.int 2))) (tC (.int 0)))) (tRet (tTup (tCons (tC (.str "two")) (tCons (tOp (rIxL K) (tLst (tCons (tC (.str "==")) (tCons (tC (.str "<")) tNil))) (tOp rModI (tOp rDivI (tVar 4) (tC (.int 128))) (tC (.int 2)))) (tCons (tVar 6) (tCons (tCall R_L_term [] E0 (tCons (tVar 0) (tCons (tVar 1) (tCons (tVar 5) (tCons (tVar 3) tNil))))) tNil))))))
    tNext)
    (tRet (tTup (tCons (tC (.str "cut")) (tCons (tVar 6) (tCons (tIf (tTest (tOp rNe (tOp (rIxT K) (tVar 5) (tC (.int 0))) (tC (.str "")))) (tC (.int 0)) (tOp rModI (tOp rDivI (tVar 4) (tC (.int 128))) (tOp (rIxT K) (tVar 5) (tC (.int 1))))) (tCons (tVar 2) tNil)))))))
    tNext)
    (tSeq (tIfS (tTest (tOp rNe (tOp (rIxT K) (tVar 2) (tC (.int 0))) (tC (.str "")))) (tRet (tTup (tCons (tC (.str "fill")) (tCons (tCall (sp_L_leaf K) [] E0 (tCons (tVar 0) (tCons (tOp (rIxT K) (tVar 1) (tC (.int 0))) (tCons (tTup (tCons (tC (.str "")) (tCons (tC (.int 1)) tNil))) tNil)))) (tCons (tVar 2) tNil)))))
    tNext)
    (tSeq (tIfS (tTest (tOp rNe (tOp (rIxT K) (tVar 5) (tC (.int 0))) (tC (.str "")))) (tRet (tTup (tCons (tC (.str "two")) (tCons (tC (.str "^")) (tCons (tCall (sp_L_leaf K) [] E0 (tCons (tVar 0) (tCons (tOp (rIxT K) (tVar 1) (tC (.int 0))) (tCons (tVar 2) tNil)))) (tCons (tCall R_L_term [] E0 (tCons (tVar 0) (tCons (tVar 1) (tCons (tVar 2) (tCons (tVar 3) tNil))))) tNil))))))
    tNext)
    (tSeq (tIfS (tAnd (tTest (tOp rLtI (tOp (rIxT K) (tVar 5) (tC (.int 1))) (tOp (rIxT K) (tVar 2) (tC (.int 1))))) (tTest (tOp rEq (tOp rModI (tOp rDivI (tVar 4) (tC (.int 64))) (tC (.int 2))) (tC (.int 0))))) (tRet (tTup (tCons (tC (.str "join")) (tCons (tVar 6) (tCons (tCall R_L_term [] E0 (tCons (tVar 0) (tCons (tVar 1) (tCons (tTup (tCons (tC (.str "")) (tCons (tOp rSubI (tOp (rIxT K) (tVar 2) (tC (.int 1))) (tOp (rIxT K) (tVar 5) (tC (.int 1)))) tNil))) (tCons (tVar 3) tNil))))) tNil)))))
    tNext)
    (tSeq (tIfS (tTest (tOp rLeI (tOp (rIxT K) (tVar 5) (tC (.int 1))) (tOp (rIxT K) (tVar 2) (tC (.int 1))))) (tRet (tTup (tCons (tC (.str "fill")) (tCons (tVar 6) (tCons (tVar 2) tNil)))))
    tNext)
    (tRet (tTup (tCons (tC (.str "cut")) (tCons (tVar 6) (tCons (tOp rModI (tOp rDivI (tVar 4) (tC (.int 64))) (tOp rAddI (tOp rSubI (tOp (rIxT K) (tVar 5) (tC (.int 1))) (tOp (rIxT K) (tVar 2) (tC (.int 1)))) (tC (.int 1)))) (tCons (tVar 2) tNil))))))))))))))


/-- L_term -/
def rd_L_term (K : PySem.W.Frag) (R_L_term : Sp) (R_L_bent : Sp) : TS :=
  (tSeq (tIfS (tTest (tOp rLtI (tVar 3) (tC (.int 2)))) (tRet (tCall (sp_L_leaf K) [] E0 (tCons (tVar 0) (tCons (tOp (rIxT K) (tVar 1) (tC (.int 0))) (tCons (tVar 2) tNil)))))
    tNext)
    (tSeq (tAsg (tCall (sp_L_next K) [] E0 (tCons (tVar 0) tNil)) (gName 4))
    (tSeq (tPar 5 6 (tCons (tOp rModI (tVar 4) (tC (.int 11))) (tCons (tOp rDivI (tVar 4) (tC (.int 11))) tNil)))
    (tSeq (tIfS (tTest (tOp rLtI (tVar 5) (tC (.int 3)))) (tRet (tCall (sp_L_leaf K) [] E0 (tCons (tVar 0) (tCons (tOp (rIxT K) (tVar 1) (tC (.int 0))) (tCons (tVar 2) tNil)))))
    tNext)
    (tSeq (tIfS (tTest (tOp rEq (tVar 5) (tC (.int 3)))) (tRet (tTup (tCons (tC (.str "not")) (tCons (tCall R_L_term [] E0 (tCons (tVar 0) (tCons (tVar 1) (tCons (tVar 2) (tCons (tOp rSubI (tVar 3) (tC (.int 1))) tNil))))) tNil))))
    tNext)
    (tSeq (tIfS (tTest (tOp rLtI (tVar 5) (tC (.int 6)))) (tSeq (tAsg (tCall R_L_term [] E0 (tCons (tVar 0) (tCons (tVar 1) (tCons (tVar 2) (tCons (tOp rSubI (tVar 3) (tC (.int 1))) tNil))))) (gName 7))
    (tRet (tTup (tCons (tC (.str "two")) (tCons (tOp rIxS (tC (.str "&|^+-")) (tOp rModI (tVar 6) (tC (.int 5)))) (tCons (tVar 7) (tCons (tCall R_L_term [] E0 (tCons (tVar 0) (tCons (tVar 1) (tCons (tVar 2) (tCons (tOp rSubI (tVar 3) (tC (.int 1))) tNil))))) tNil)))))))
    tNext)
    (tSeq (tIfS (tTest (tOp rEq (tVar 5) (tC (.int 6)))) (tSeq (tAsg (tCall R_L_term [] E0 (tCons (tVar 0) (tCons (tVar 1) (tCons (tTup (tCons (tC (.str "")) (tCons (tC (.int 1)) tNil))) (tCons (tOp rSubI (tVar 3) (tC (.int 1))) tNil))))) (gName 8))
    (tSeq (tAsg (tCall R_L_term [] E0 (tCons (tVar 0) (tCons (tVar 1) (tCons (tVar 2) (tCons (tOp rSubI (tVar 3) (tC (.int 1))) tNil))))) (gName 7))
    (tRet (tTup (tCons (tC (.str "pick")) (tCons (tVar 8) (tCons (tVar 7) (tCons (tCall R_L_term [] E0 (tCons (tVar 0) (tCons (tVar 1) (tCons (tVar 2) (tCons (tOp rSubI (tVar 3) (tC (.int 1))) tNil))))) tNil))))))))
    tNext)
    (tSeq (tAsg (tLc (iList K (tOp (rIxT K) (tVar 1) (tC (.int 1)))) (gTup K 2 (gCons (gName 11) (gCons (gName 10) gNil))) (tTest (tOp (rEqD K) (tVar 10) (tVar 2))) (tVar 11) [11, 10]) (gName 9))
    (tSeq (tIfS (tAnd (tTest (tOp rLtI (tVar 5) (tC (.int 9)))) (tTest (tOp (rNeD K) (tVar 9) (tLst tNil)))) (tSeq (tAsg (tTup (tCons (tC (.str "")) (tCons (tOp rAddI (tC (.int 1)) (tOp rModI (tOp rDivI (tVar 6) (tC (.int 8))) (tC (.int 6)))) tNil))) (gName 10))
    (Evl.tCut (tIfS (tAnd (tTest (tOp rLtI (tOp rModI (tVar 6) (tC (.int 8))) (tC (.int 4)))) (tTest (tOp (rNeD K) (tOp (rIxT K) (tVar 1) (tC (.int 0))) (tLst tNil)))) (tAsg (tOp (rIxT K) (tOp (rIxL K) (tOp (rIxT K) (tVar 1) (tC (.int 0))) (tOp rModI (tOp rDivI (tVar 6) (tC (.int 8))) (tCB (cLenSeq K) (tCons (tOp (rIxT K) (tVar 1) (tC (.int 0))) tNil)))) (tC (.int 1))) (gName 10))
    tNext)
    (tRet (tTup (tCons (tC (.str "at")) (tCons (tOp (rIxL K) (tVar 9) (tOp rModI (tVar 6) (tCB (cLenSeq K) (tCons (tVar 9) tNil)))) (tCons (tCall R_L_term [] E0 (tCons (tVar 0) (tCons (tVar 1) (tCons (tVar 10) (tCons (tOp rSubI (tVar 3) (tC (.int 1))) tNil))))) tNil)))))))
    tNext)
    (tRet (tCall R_L_bent [] E0 (tCons (tVar 0) (tCons (tVar 1) (tCons (tVar 2) (tCons (tOp rSubI (tVar 3) (tC (.int 1))) (tCons (tVar 6) tNil))))))))))))))))


/-- L_used -/
def rd_L_used (K : PySem.W.Frag) : TS :=
  (tSeq (tAsg (tCall (sp_L_next K) [] E0 (tCons (tVar 0) tNil)) (gName 5))
    (tSeq (tAsg (tOp (rIxL K) (tVar 1) (tOp rSubI (tOp rSubI (tCB (cLenSeq K) (tCons (tVar 1) tNil)) (tC (.int 1))) (tOp rModI (tOp rModI (tVar 5) (tC (.int 3))) (tCB (cLenSeq K) (tCons (tVar 1) tNil))))) (gName 6))
    (tSeq (tAsg (tLst tNil) (gName 7))
    (tSeq (tFor (iRng1 (tCons (tCB (cLenSeq K) (tCons (tOp (rIxT K) (tVar 6) (tC (.int 1))) tNil)) tNil)) (gName 8) (tSeq (tAsg (tCall (sp_L_next K) [] E0 (tCons (tVar 0) tNil)) (gName 9))
    (tIfS (tAnd (tTest (tOp (rNeD K) (tVar 3) (tLst tNil))) (tTest (tOp rEq (tOp rModI (tVar 9) (tC (.int 2))) (tC (.int 0))))) (tDrop (tBM K "list" rAppend (tVar 7) (tCons (tTup (tCons (tOp (rIxL K) (tVar 3) (tOp rModI (tOp rDivI (tVar 9) (tC (.int 2))) (tCB (cLenSeq K) (tCons (tVar 3) tNil)))) (tCons (tC (.int 0)) tNil))) tNil)))
    (tDrop (tBM K "list" rAppend (tVar 7) (tCons (tTup (tCons (tC (.str "")) (tCons (tOp rAddI (tC (.int 4)) (tOp rModI (tOp rDivI (tVar 9) (tC (.int 2))) (tC (.int 56)))) tNil))) tNil))))))
    (tSeq (tAsg (tLst tNil) (gName 10))
    (tSeq (tFor (iTup K (tOp (rIxT K) (tVar 6) (tC (.int 2)))) (gName 11) (tIfS (tTest (tOp (rIn K false) (tOp (rIxT K) (tVar 11) (tC (.int 0))) (tTup (tCons (tC (.str "in")) (tCons (tC (.str "out")) tNil))))) (tSeq (tAsg (tOp (rIxT K) (tVar 11) (tC (.int 2))) (gName 12))
    (Evl.tCut (tIfS (tTest (tOp rNe (tOp (rIxT K) (tVar 12) (tC (.int 0))) (tC (.str "")))) (tSeq (tAsg (tOp (rIxL K) (tVar 7) (ZI.tTIdx K (tOp (rIxT K) (tVar 6) (tC (.int 1))) (tCons (tOp (rIxT K) (tVar 12) (tC (.int 0))) tNil))) (gName 13))
    (tAsg (tTup (tCons (tOp (rIxT K) (tVar 13) (tC (.int 0))) (tCons (tOp rAddI (tOp (rIxT K) (tVar 13) (tC (.int 1))) (tOp (rIxT K) (tVar 12) (tC (.int 1)))) tNil))) (gName 12)))
    tNext)
    (tDrop (tBM K "list" rAppend (tVar 10) (tCons (tTup (tCons (tOp (rIxT K) (tVar 11) (tC (.int 0))) (tCons (tOp (rIxT K) (tVar 11) (tC (.int 1))) (tCons (tVar 12) tNil)))) tNil)))))
    tNext))
    (tSeq (tAsg (tLc (iList K (tVar 10)) (gTup K 3 (gCons (gName 15) (gCons (gName 16) (gCons (gName 12) gNil)))) (tTest (tOp rEq (tVar 15) (tC (.str "in")))) (tCall (sp_L_term K 4) [] E0 (tCons (tVar 0) (tCons (tVar 4) (tCons (tVar 12) (tCons (tC (.int 3)) tNil))))) [15, 16, 12]) (gName 14))
    (tSeq (tFor (iList K (tVar 10)) (gTup K 3 (gCons (gName 15) (gCons (gName 16) (gCons (gName 12) gNil)))) (tIfS (tTest (tOp rEq (tVar 15) (tC (.str "out")))) (tDrop (tBM K "list" rAppend (tOp (rIxT K) (tVar 4) (tC (.int 0))) (tCons (tTup (tCons (tTup (tCons (tC (.str "of")) (tCons (tVar 2) (tCons (tVar 16) tNil)))) (tCons (tVar 12) tNil))) tNil)))
    tNext))
    (tRet (tTup (tCons (tC (.str "use")) (tCons (tVar 2) (tCons (tOp (rIxT K) (tVar 6) (tC (.int 0))) (tCons (tCB (cTupOf K) (tCons (tVar 7) tNil)) (tCons (tCB (cTupOf K) (tCons (tVar 14) tNil)) tNil)))))))))))))))


/-- L_wired -/
def rd_L_wired (K : PySem.W.Frag) : TS :=
  (tSeq (tAsg (tCall (sp_L_next K) [] E0 (tCons (tVar 0) tNil)) (gName 5))
    (tSeq (tAsg (tCall (sp_L_width K) [] E0 (tCons (tVar 0) (tCons (tVar 3) tNil))) (gName 6))
    (Evl.tCut (tIfS (tAnd (tTest (tOp (rNeD K) (tOp (rIxT K) (tVar 4) (tC (.int 1))) (tLst tNil))) (tTest (tOp rGtI (tOp rModI (tVar 5) (tC (.int 3))) (tC (.int 0))))) (tSeq (tAsg (tOp (rIxL K) (tOp (rIxT K) (tVar 4) (tC (.int 1))) (tOp rModI (tOp rDivI (tVar 5) (tC (.int 3))) (tCB (cLenSeq K) (tCons (tOp (rIxT K) (tVar 4) (tC (.int 1))) tNil)))) (gTup K 2 (gCons (gName 7) (gCons (gName 6) gNil))))
    (tSeq (tAsg (tTup (tCons (tC (.str "at")) (tCons (tVar 7) (tCons (tCall (sp_L_term K 4) [] E0 (tCons (tVar 0) (tCons (tVar 4) (tCons (tTup (tCons (tC (.str "")) (tCons (tOp rAddI (tC (.int 1)) (tOp rModI (tOp rDivI (tVar 5) (tC (.int 12))) (tC (.int 3)))) tNil))) (tCons (tC (.int 2)) tNil))))) tNil)))) (gName 8))
    (tIfS (tTest (tOp rEq (tOp rModI (tOp rDivI (tVar 5) (tC (.int 36))) (tC (.int 2))) (tC (.int 1)))) (tAsg (tTup (tCons (tC (.str "two")) (tCons (tOp rIxS (tC (.str "^+")) (tOp rModI (tOp rDivI (tVar 5) (tC (.int 72))) (tC (.int 2)))) (tCons (tCall (sp_L_term K 4) [] E0 (tCons (tVar 0) (tCons (tVar 4) (tCons (tVar 6) (tCons (tC (.int 2)) tNil))))) (tCons (tVar 8) tNil))))) (gName 8))
    tNext)))
    (tAsg (tCall (sp_L_term K 4) [] E0 (tCons (tVar 0) (tCons (tVar 4) (tCons (tVar 6) (tCons (tC (.int 3)) tNil))))) (gName 8)))
    (tSeq (tDrop (tBM K "list" rAppend (tOp (rIxT K) (tVar 4) (tC (.int 0))) (tCons (tTup (tCons (tTup (tCons (tC (.str "name")) (tCons (tVar 2) tNil))) (tCons (tVar 6) tNil))) tNil)))
    (tRet (tLst (tCons (tTup (tCons (tVar 1) (tCons (tVar 2) (tCons (tVar 6) tNil)))) (tCons (tTup (tCons (tC (.str "let")) (tCons (tVar 2) (tCons (tVar 8) tNil)))) tNil))))))))


/-- L_part -/
def rd_L_part (K : PySem.W.Frag) : TS :=
  (tSeq (tAsg (tTup (tCons (tLst tNil) (tCons (tLst tNil) tNil))) (gName 5))
    (tSeq (tAsg (tCB (cListOf K) (tCons (tVar 4) tNil)) (gName 4))
    (tSeq (tAsg (tCall (sp_L_heads K) [] E0 (tCons (tVar 0) (tCons (tVar 4) (tCons (tVar 3) (tCons (tVar 5) tNil))))) (gName 6))
    (tSeq (tAsg (tLst tNil) (gName 7))
    (tSeq (tAsg (tCall (sp_L_next K) [] E0 (tCons (tVar 0) tNil)) (gName 8))
    (tSeq (tAsg (tOp rCat (tOp rRep (tLst (tCons (tC (.str "wire")) tNil)) (tOp (rIxL K) (tLst (tCons (tC (.int 0)) (tCons (tC (.int 1)) (tCons (tC (.int 1)) (tCons (tC (.int 2)) tNil))))) (tOp rModI (tVar 8) (tC (.int 4))))) (tOp rRep (tLst (tCons (tC (.str "use")) tNil)) (tOp rMulI (tOp (rIxL K) (tLst (tCons (tC (.int 1)) (tCons (tC (.int 1)) (tCons (tC (.int 0)) (tCons (tC (.int 1)) (tCons (tC (.int 2)) tNil)))))) (tOp rModI (tOp rDivI (tVar 8) (tC (.int 4))) (tC (.int 5)))) (tCB cInt1 (tCons (tOp (rNeD K) (tVar 1) (tLst tNil)) tNil))))) (gName 9))
    (Evl.tCut (tIfS (tTest (tOp rEq (tOp rModI (tOp rDivI (tVar 8) (tC (.int 20))) (tC (.int 2))) (tC (.int 1)))) (tDrop (tBM0 K "list" rReverse (tVar 9)))
    tNext)
    (tSeq (tFor (iList K (tOp rCat (tVar 9) (tOp rRep (tLst (tCons (tC (.str "out")) tNil)) (tOp (rIxL K) (tLst (tCons (tC (.int 1)) (tCons (tC (.int 1)) (tCons (tC (.int 2)) tNil)))) (tOp rModI (tOp rDivI (tVar 8) (tC (.int 40))) (tC (.int 3))))))) (gName 10) (tSeq (tAsg (tBM K "list" rPopAt (tVar 4) (tCons (tC (.int 0)) tNil)) (gName 11))
    (tIfS (tTest (tOp rEq (tVar 10) (tC (.str "use")))) (tDrop (tBM K "list" rAppend (tVar 7) (tCons (tCall (sp_L_used K) [] E0 (tCons (tVar 0) (tCons (tVar 1) (tCons (tVar 11) (tCons (tVar 3) (tCons (tVar 5) tNil)))))) tNil)))
    (tDrop (tBM K "list" rExtend (tVar 7) (tCons (tCall (sp_L_wired K) [] E0 (tCons (tVar 0) (tCons (tVar 10) (tCons (tVar 11) (tCons (tVar 3) (tCons (tVar 5) tNil)))))) tNil))))))
    (tSeq (tFor (iList K (tVar 6)) (gName 12) (Evl.tCut (tIfS (tTest (tOp rEq (tOp (rIxT K) (tVar 12) (tC (.int 0))) (tC (.str "rest")))) (tAsg (tOp (rCatA K) (tVar 12) (tTup (tCons (tCall (sp_L_term K 4) [] E0 (tCons (tVar 0) (tCons (tVar 5) (tCons (tOp (rIxT K) (tVar 12) (tC (.int 2))) (tCons (tC (.int 3)) tNil))))) tNil))) (gName 12))
    tNext)
    (Evl.tCut (tIfS (tTest (tOp rEq (tOp (rIxT K) (tVar 12) (tC (.int 0))) (tC (.str "memory")))) (tSeq (tAsg (tCall (sp_L_term K 4) [] E0 (tCons (tVar 0) (tCons (tVar 5) (tCons (tTup (tCons (tC (.str "")) (tCons (tOp rAddI (tC (.int 1)) (tOp rModI (tCall (sp_L_next K) [] E0 (tCons (tVar 0) tNil)) (tC (.int 3)))) tNil))) (tCons (tC (.int 2)) tNil))))) (gName 13))
    (tSeq (tAsg (tCall (sp_L_term K 4) [] E0 (tCons (tVar 0) (tCons (tVar 5) (tCons (tOp (rIxT K) (tVar 12) (tC (.int 2))) (tCons (tC (.int 2)) tNil))))) (gName 14))
    (tAsg (tOp (rCatA K) (tVar 12) (tTup (tCons (tVar 13) (tCons (tVar 14) (tCons (tCall (sp_L_term K 4) [] E0 (tCons (tVar 0) (tCons (tVar 5) (tCons (tTup (tCons (tC (.str "")) (tCons (tC (.int 1)) tNil))) (tCons (tC (.int 2)) tNil))))) tNil))))) (gName 12))))
    tNext)
    (tDrop (tBM K "list" rAppend (tVar 7) (tCons (tVar 12) tNil))))))
    (tSeq (tAsg (tOp rModI (tOp rDivI (tVar 8) (tC (.int 120))) (tCB (cLenSeq K) (tCons (tVar 7) tNil))) (gName 15))
    (tSeq (tAsg (tOp rCat (tSl (rSlL K) (tVar 7) (tPart (tVar 15)) tNoPart) (tSl (rSlL K) (tVar 7) tNoPart (tPart (tVar 15)))) (gName 7))
    (tSeq (tIfS (tTest (tOp rEq (tOp rModI (tOp rDivI (tVar 8) (tC (.int 7200))) (tC (.int 2))) (tC (.int 1)))) (tDrop (tBM0 K "list" rReverse (tVar 7)))
    tNext)
    (tRet (tTup (tCons (tVar 2) (tCons (tCB (ZI.cTupOfF K) (tCons (tVar 3) tNil)) (tCons (tCB (cTupOf K) (tCons (tVar 7) tNil)) tNil)))))))))))))))))


/-- L_yard -/
def rd_L_yard (K : PySem.W.Frag) : TS :=
  (tSeq (tAsg (tLst (tCons (tVar 0) (tCons (tC (.int 0)) tNil))) (gName 1))
    (tSeq (tAsg (tCall (sp_L_names K) [] E0 (tCons (tCall (sp_L_cell K) [] E0 (tCons (tVar 0) (tCons (tC (.int 0)) tNil))) tNil)) (gName 2))
    (tSeq (tAsg (tOp rAddI (tC (.int 1)) (tOp rModI (tCall (sp_L_next K) [] E0 (tCons (tVar 1) tNil)) (tC (.int 4)))) (gName 3))
    (tSeq (tAsg (tLst tNil) (gName 4))
    (tSeq (tFor (iRng1 (tCons (tVar 3) tNil)) (gName 5) (tSeq (tAsg (tIf (tTest (tOp rLtI (tVar 5) (tOp rSubI (tVar 3) (tC (.int 1))))) (tSl (rSlL K) (tVar 2) (tPart (tC (.int 4))) (tPart (tOp rAddI (tC (.int 4)) (tOp rModI (tCall (sp_L_next K) [] E0 (tCons (tVar 1) tNil)) (tC (.int 3)))))) (tLst tNil)) (gName 6))
    (tDrop (tBM K "list" rAppend (tVar 4) (tCons (tCall (sp_L_part K) [] E0 (tCons (tVar 1) (tCons (tVar 4) (tCons (tOp (rIxL K) (tVar 2) (tVar 5)) (tCons (tVar 6) (tCons (tOp rCat (tSl (rSlL K) (tVar 2) (tPart (tOp rMulI (tC (.int 3)) (tVar 5))) tNoPart) (tSl (rSlL K) (tVar 2) tNoPart (tPart (tOp rMulI (tC (.int 3)) (tVar 5))))) tNil)))))) tNil)))))
    (tRet (tCB (cTupOf K) (tCons (tVar 4) tNil))))))))


/-- L_numbers -/
def rd_L_numbers (K : PySem.W.Frag) (R_L_numbers : Sp) : TS :=
  (tSeq (tAsg (ZW.tDictZip K (tCons (tOp (rIxT K) (tVar 1) (tC (.int 1))) (tCons (tVar 3) tNil))) (gName 5))
    (tSeq (tDrop (tBM K "list" rAppend (tVar 4) (tCons (tTup (tCons (tVar 2) (tCons (tOp (rIxT K) (tVar 1) (tC (.int 0))) (tCons (tVar 3) tNil)))) tNil)))
    (tSeq (tFor (iTup K (tOp (rIxT K) (tVar 1) (tC (.int 2)))) (gName 6) (tIfS (tTest (tOp rEq (tOp (rIxT K) (tVar 6) (tC (.int 0))) (tC (.str "use")))) (tSeq (tAsg (tOp (rIxL K) (tLc (iTup K (tVar 0)) (gName 9) (tTest (tOp rEq (tOp (rIxT K) (tVar 9) (tC (.int 0))) (tOp (rIxT K) (tVar 6) (tC (.int 2))))) (tVar 9) [9]) (tC (.int 0))) (gName 7))
    (tSeq (tAsg (tLc (iTup K (tOp (rIxT K) (tVar 6) (tC (.int 3)))) (gName 10) tYes (tOp rAddI (tOp (rIxT K) (tVar 10) (tC (.int 1))) (tDGet2 (tVar 5) (tOp (rIxT K) (tVar 10) (tC (.int 0))) (tC (.int 0)))) [10]) (gName 8))
    (tDrop (tCall R_L_numbers [] E0 (tCons (tVar 0) (tCons (tVar 7) (tCons (tOp rAddStr (tOp rAddStr (tVar 2) (tOp (rIxT K) (tVar 6) (tC (.int 1)))) (tC (.str "."))) (tCons (tCB (cTupOf K) (tCons (tVar 8) tNil)) (tCons (tVar 4) tNil)))))))))
    tNext))
    (tRet (tVar 4)))))


/-- L_walked -/
def rd_L_walked (K : PySem.W.Frag) (R_L_walked : Sp) : TS :=
  (tSeq (tDrop (tBM K "list" rAppend (tVar 3) (tCons (tTup (tCons (tVar 2) (tCons (tVar 1) tNil))) tNil)))
    (tSeq (tFor (iTup K (tOp (rIxT K) (tVar 1) (tC (.int 2)))) (gName 4) (tIfS (tTest (tOp rEq (tOp (rIxT K) (tVar 4) (tC (.int 0))) (tC (.str "use")))) (tSeq (tAsg (tOp (rIxL K) (tLc (iTup K (tVar 0)) (gName 6) (tTest (tOp rEq (tOp (rIxT K) (tVar 6) (tC (.int 0))) (tOp (rIxT K) (tVar 4) (tC (.int 2))))) (tVar 6) [6]) (tC (.int 0))) (gName 5))
    (tDrop (tCall R_L_walked [] E0 (tCons (tVar 0) (tCons (tVar 5) (tCons (tOp rAddStr (tOp rAddStr (tVar 2) (tOp (rIxT K) (tVar 4) (tC (.int 1)))) (tC (.str "."))) (tCons (tVar 3) tNil)))))))
    tNext))
    (tRet (tVar 3))))


/-- L_kids -/
def rd_L_kids (K : PySem.W.Frag) : TS :=
  (tSeq (tAsg (tDisp [((tC (.str "at")), (tLst (tCons (tC (.int 2)) tNil))), ((tC (.str "not")), (tLst (tCons (tC (.int 1)) tNil))), ((tC (.str "two")), (tLst (tCons (tC (.int 2)) (tCons (tC (.int 3)) tNil)))), ((tC (.str "pick")), (tLst (tCons (tC (.int 1)) (tCons (tC (.int 2)) (tCons (tC (.int 3)) tNil))))), ((tC (.str "cut")), (tLst (tCons (tC (.int 1)) tNil))), ((tC (.str "join")), (tLst (tCons (tC (.int 1)) (tCons (tC (.int 2)) tNil)))), ((tC (.str "fill")), (tLst (tCons (tC (.int 1)) tNil)))]) (gName 1))
    (tRet (tLc (iList K (tDGet2 (tVar 1) (tOp (rIxT K) (tVar 0) (tC (.int 0))) (tLst tNil))) (gName 2) tYes (tOp (rIxT K) (tVar 0) (tVar 2)) [2])))


/-- L_asked -/
def rd_L_asked (K : PySem.W.Frag) : TS :=
  (tSeq (tPar 2 3 (tCons (tLst tNil) (tCons (tLst (tCons (tVar 0) tNil)) tNil)))
    (tSeq (tWhile (tTest (tOp (rNeD K) (tVar 3) (tLst tNil))) (tSeq (tAsg (tBM0 K "list" rPop (tVar 3)) (gName 4))
    (tSeq (tAsg (tIf (tTest (tOp (rIn K false) (tOp (rIxT K) (tVar 4) (tC (.int 0))) (tTup (tCons (tC (.str "name")) (tCons (tC (.str "of")) tNil))))) (tOp rAddStr (tVar 1) (tBM K "str" (rJoin K) (tC (.str ".")) (tCons (tSl (rSlA K) (tVar 4) (tPart (tC (.int 1))) tNoPart) tNil))) (tC (.str ""))) (gName 5))
    (tSeq (tIfS (tAnd (tTest (tOp rNe (tVar 5) (tC (.str "")))) (tTest (tOp (rIn K true) (tVar 5) (tVar 2)))) (tDrop (tBM K "list" rAppend (tVar 2) (tCons (tVar 5) tNil)))
    tNext)
    (tDrop (tBM K "list" rExtend (tVar 3) (tCons (tRevL K (tCall (sp_L_kids K) [] E0 (tCons (tVar 4) tNil))) tNil)))))))
    (tRet (tVar 2))))


/-- L_asks -/
def rd_L_asks (K : PySem.W.Frag) : TS :=
  (tSeq (tAsg tDNewK (gName 1))
    (tSeq (tFor (iList K (tCall (sp_L_walked K 6) [] E0 (tCons (tVar 0) (tCons (tOp (rIxT K) (tVar 0) (tOp rSubI (tCB (cLenSeq K) (tCons (tVar 0) tNil)) (tC (.int 1)))) (tCons (tC (.str "")) (tCons (tLst tNil) tNil)))))) (gTup K 2 (gCons (gName 2) (gCons (gName 3) gNil))) (tFor (iTup K (tOp (rIxT K) (tVar 3) (tC (.int 2)))) (gName 4) (tSeq (tIfS (tTest (tOp rEq (tOp (rIxT K) (tVar 4) (tC (.int 0))) (tC (.str "let")))) (sDPut (tVar 1) (tOp rAddStr (tVar 2) (tOp (rIxT K) (tVar 4) (tC (.int 1)))) (tCall (sp_L_asked K) [] E0 (tCons (tOp (rIxT K) (tVar 4) (tC (.int 2))) (tCons (tVar 2) tNil))))
    tNext)
    (tIfS (tTest (tOp rEq (tOp (rIxT K) (tVar 4) (tC (.int 0))) (tC (.str "use")))) (tSeq (tAsg (tOp (rIxL K) (tLc (iTup K (tVar 0)) (gName 9) (tTest (tOp rEq (tOp (rIxT K) (tVar 9) (tC (.int 0))) (tOp (rIxT K) (tVar 4) (tC (.int 2))))) (tVar 9) [9]) (tC (.int 0))) (gName 5))
    (tSeq (tAsg (tLc (iTup K (tOp (rIxT K) (tVar 5) (tC (.int 2)))) (gName 9) (tTest (tOp rEq (tOp (rIxT K) (tVar 9) (tC (.int 0))) (tC (.str "in")))) (tOp (rIxT K) (tVar 9) (tC (.int 1))) [9]) (gName 6))
    (tFor (iZw K (tCons (tVar 6) (tCons (tOp (rIxT K) (tVar 4) (tC (.int 4))) tNil))) (gTup K 2 (gCons (gName 7) (gCons (gName 8) gNil))) (sDPut (tVar 1) (tOp rAddStr (tOp rAddStr (tOp rAddStr (tVar 2) (tOp (rIxT K) (tVar 4) (tC (.int 1)))) (tC (.str "."))) (tVar 7)) (tCall (sp_L_asked K) [] E0 (tCons (tVar 8) (tCons (tVar 2) tNil)))))))
    tNext))))
    (tRet (tVar 1))))


/-- width_number -/
def rd_width_number (K : PySem.W.Frag) : TS :=
  (tSeq (tAsg (tVar 0) (gTup K 2 (gCons (gName 2) (gCons (gName 3) gNil))))
    (tSeq (tIfS (tTest (tOp rEq (tVar 2) (tC (.str "")))) (tRet (tVar 3))
    tNext)
    (tRet (tOp rAddI (tDGet (tVar 1) (tVar 2)) (tVar 3)))))


/-- width_numbers -/
def rd_width_numbers (K : PySem.W.Frag) : TS :=
  (tRet (tCB (cTupOf K) (tCons (tLc (iTup K (tVar 0)) (gName 2) tYes (tCall (sp_width_number K) [] E0 (tCons (tVar 2) (tCons (tVar 1) tNil))) [2]) tNil)))


/-- p_made_from -/
def rd_p_made_from (K : PySem.W.Frag) (R_p_made_from : Sp) : TS :=
  (tSeq (tAsg (tDGet (tVar 0) (tVar 2)) (gTup K 3 (gCons (gName 4) (gCons (gName 5) (gCons (gName 6) gNil)))))
    (tSeq (tAsg (ZW.tDictZip K (tCons (tVar 5) (tCons (tVar 3) tNil))) (gName 7))
    (tSeq (tAsg (tLst (tCons (tTup (tCons (tVar 1) (tCons (tVar 2) (tCons (tVar 3) tNil)))) tNil)) (gName 8))
    (tSeq (tFor (iTup K (tVar 6)) (gName 9) (tIfS (tTest (tOp rEq (tOp (rIxT K) (tVar 9) (tC (.int 0))) (tC (.str "use")))) (tSeq (tAsg (tVar 9) (gTup K 5 (gCons (gName 4) (gCons (gName 10) (gCons (gName 11) (gCons (gName 12) (gCons (gName 4) gNil)))))))
    (tSeq (tAsg (tCall (sp_width_numbers K) [] E0 (tCons (tVar 12) (tCons (tVar 7) tNil))) (gName 13))
    (tDrop (tBM K "list" rExtend (tVar 8) (tCons (tCall R_p_made_from [] E0 (tCons (tVar 0) (tCons (tOp rAddStr (tOp rAddStr (tVar 1) (tVar 10)) (tC (.str "."))) (tCons (tVar 11) (tCons (tVar 13) tNil))))) tNil)))))
    tNext))
    (tRet (tVar 8))))))


/-- parts_by_name -/
def rd_parts_by_name (K : PySem.W.Frag) : TS :=
  (tRet (tDc (iTup K (tVar 0)) (gName 1) tYes (tOp (rIxT K) (tVar 1) (tC (.int 0))) (tVar 1) [1]))


/-- made_parts -/
def rd_made_parts (K : PySem.W.Frag) : TS :=
  (tSeq (tAsg (tOp (rIxT K) (tVar 0) (tUn rNegI (tC (.int 1)))) (gName 1))
    (tRet (tCB (cTupOf K) (tCons (tCall (sp_p_made_from K 6) [] E0 (tCons (tCall (sp_parts_by_name K) [] E0 (tCons (tVar 0) tNil)) (tCons (tC (.str "")) (tCons (tOp (rIxT K) (tVar 1) (tC (.int 0))) (tCons (tTup tNil) tNil))))) tNil))))


/-- kids_of -/
def rd_kids_of (K : PySem.W.Frag) : TS :=
  (tSeq (tAsg (tOp (rIxT K) (tVar 0) (tC (.int 0))) (gName 1))
    (tSeq (tIfS (tTest (tOp (rIn K false) (tVar 1) (tTup (tCons (tC (.str "not")) (tCons (tC (.str "cut")) (tCons (tC (.str "fill")) tNil)))))) (tRet (tLst (tCons (tOp (rIxT K) (tVar 0) (tC (.int 1))) tNil)))
    tNext)
    (tSeq (tIfS (tTest (tOp rEq (tVar 1) (tC (.str "at")))) (tRet (tLst (tCons (tOp (rIxT K) (tVar 0) (tC (.int 2))) tNil)))
    tNext)
    (tSeq (tIfS (tTest (tOp rEq (tVar 1) (tC (.str "two")))) (tRet (tLst (tCons (tOp (rIxT K) (tVar 0) (tC (.int 2))) (tCons (tOp (rIxT K) (tVar 0) (tC (.int 3))) tNil))))
    tNext)
    (tSeq (tIfS (tTest (tOp rEq (tVar 1) (tC (.str "join")))) (tRet (tLst (tCons (tOp (rIxT K) (tVar 0) (tC (.int 1))) (tCons (tOp (rIxT K) (tVar 0) (tC (.int 2))) tNil))))
    tNext)
    (tSeq (tIfS (tTest (tOp rEq (tVar 1) (tC (.str "pick")))) (tRet (tLst (tCons (tOp (rIxT K) (tVar 0) (tC (.int 1))) (tCons (tOp (rIxT K) (tVar 0) (tC (.int 2))) (tCons (tOp (rIxT K) (tVar 0) (tC (.int 3))) tNil)))))
    tNext)
    (tRet (tLst tNil))))))))


/-- p_names_in -/
def rd_p_names_in (K : PySem.W.Frag) (R_p_names_in : Sp) : TS :=
  (tSeq (tIfS (tTest (tOp rEq (tOp (rIxT K) (tVar 0) (tC (.int 0))) (tC (.str "name")))) (tRet (tLst (tCons (tOp (rIxT K) (tVar 0) (tC (.int 1))) tNil)))
    tNext)
    (tSeq (tIfS (tTest (tOp rEq (tOp (rIxT K) (tVar 0) (tC (.int 0))) (tC (.str "of")))) (tRet (tLst (tCons (tOp rAddStr (tOp rAddStr (tOp (rIxT K) (tVar 0) (tC (.int 1))) (tC (.str "."))) (tOp (rIxT K) (tVar 0) (tC (.int 2)))) tNil)))
    tNext)
    (tSeq (tAsg (tLst tNil) (gName 1))
    (tSeq (tFor (iList K (tCall (sp_kids_of K) [] E0 (tCons (tVar 0) tNil))) (gName 2) (tDrop (tBM K "list" rExtend (tVar 1) (tCons (tCall R_p_names_in [] E0 (tCons (tVar 2) tNil)) tNil))))
    (tRet (tVar 1))))))


/-- p_asked_by -/
def rd_p_asked_by (K : PySem.W.Frag) : TS :=
  (tSeq (tAsg (tLst tNil) (gName 2))
    (tSeq (tFor (iList K (tCall (sp_p_names_in K 8) [] E0 (tCons (tVar 0) tNil))) (gName 3) (tIfS (tTest (tOp (rIn K true) (tOp rAddStr (tVar 1) (tVar 3)) (tVar 2))) (tDrop (tBM K "list" rAppend (tVar 2) (tCons (tOp rAddStr (tVar 1) (tVar 3)) tNil)))
    tNext))
    (tRet (tVar 2))))


/-- names_told -/
def rd_names_told (K : PySem.W.Frag) : TS :=
  (tRet (tLc (iTup K (tOp (rIxT K) (tVar 0) (tC (.int 2)))) (gName 2) (tTest (tOp rEq (tOp (rIxT K) (tVar 2) (tC (.int 0))) (tVar 1))) (tOp (rIxT K) (tVar 2) (tC (.int 1))) [2]))


/-- asks_of -/
def rd_asks_of (K : PySem.W.Frag) : TS :=
  (tSeq (tAsg (tCall (sp_parts_by_name K) [] E0 (tCons (tVar 0) tNil)) (gName 1))
    (tSeq (tAsg tDNewK (gName 2))
    (tSeq (tFor (iTup K (tCall (sp_made_parts K) [] E0 (tCons (tVar 0) tNil))) (gTup K 3 (gCons (gName 3) (gCons (gName 4) (gCons (gName 5) gNil)))) (tFor (iTup K (tOp (rIxT K) (tDGet (tVar 1) (tVar 4)) (tC (.int 2)))) (gName 6) (tSeq (tIfS (tTest (tOp rEq (tOp (rIxT K) (tVar 6) (tC (.int 0))) (tC (.str "let")))) (sDPut (tVar 2) (tOp rAddStr (tVar 3) (tOp (rIxT K) (tVar 6) (tC (.int 1)))) (tCall (sp_p_asked_by K) [] E0 (tCons (tOp (rIxT K) (tVar 6) (tC (.int 2))) (tCons (tVar 3) tNil))))
    tNext)
    (tIfS (tTest (tOp rEq (tOp (rIxT K) (tVar 6) (tC (.int 0))) (tC (.str "use")))) (tSeq (tAsg (tVar 6) (gTup K 5 (gCons (gName 5) (gCons (gName 7) (gCons (gName 8) (gCons (gName 5) (gCons (gName 9) gNil)))))))
    (tFor (iZw K (tCons (tCall (sp_names_told K) [] E0 (tCons (tDGet (tVar 1) (tVar 8)) (tCons (tC (.str "in")) tNil))) (tCons (tVar 9) tNil))) (gTup K 2 (gCons (gName 10) (gCons (gName 11) gNil))) (sDPut (tVar 2) (tOp rAddStr (tOp rAddStr (tOp rAddStr (tVar 3) (tVar 7)) (tC (.str "."))) (tVar 10)) (tCall (sp_p_asked_by K) [] E0 (tCons (tVar 11) (tCons (tVar 3) tNil))))))
    tNext))))
    (tRet (tVar 2)))))


/-- p_ring_from -/
def rd_p_ring_from (K : PySem.W.Frag) : TS :=
  (tSeq (tAsg (tLst tNil) (gName 3))
    (tSeq (tAsg tDNewK (gName 4))
    (tSeq (tAsg (tLst (tCons (tLst (tCons (tVar 0) tNil)) tNil)) (gName 5))
    (tSeq (tWhile (tTru K (tVar 5)) (tSeq (tIfS (tNot (tTru K (tOp (rIxL K) (tVar 5) (tUn rNegI (tC (.int 1)))))) (tSeq (tDrop (tBM0 K "list" rPop (tVar 5)))
    (tSeq (tIfS (tTru K (tVar 3)) (sDPut (tVar 2) (tBM0 K "list" rPop (tVar 3)) (tC (.bl true)))
    tNext)
    tCont))
    tNext)
    (tSeq (tAsg (tBM0 K "list" rPop (tOp (rIxL K) (tVar 5) (tUn rNegI (tC (.int 1))))) (gName 6))
    (tSeq (tIfS (tB (tDIn (tVar 6) (tVar 2))) tCont
    tNext)
    (tSeq (tIfS (tB (tDIn (tVar 6) (tVar 4))) (tRet (tSl (rSlL K) (tVar 3) (tPart (tDGet (tVar 4) (tVar 6))) tNoPart))
    tNext)
    (tSeq (sDPut (tVar 4) (tVar 6) (tCB (cLenSeq K) (tCons (tVar 3) tNil)))
    (tSeq (tDrop (tBM K "list" rAppend (tVar 3) (tCons (tVar 6) tNil)))
    (tDrop (tBM K "list" rAppend (tVar 5) (tCons (tRevOf K (tDGet2 (tVar 1) (tVar 6) (tLst tNil))) tNil))))))))))
    (tRet (tC .non))))))


/-- ring_in -/
def rd_ring_in (K : PySem.W.Frag) : TS :=
  (tSeq (tAsg tDNewK (gName 1))
    (tSeq (tLock (tFor (iKeys (tVar 0)) (gName 2) (tSeq (tAsg (tCall (sp_p_ring_from K) [] E0 (tCons (tVar 2) (tCons (tVar 0) (tCons (tVar 1) tNil)))) (gName 3))
    (tIfS (tB (tNotN (tVar 3))) (tRet (tVar 3))
    tNext))))
    (tRet (tC .non))))


/-- widths_in -/
def rd_widths_in (K : PySem.W.Frag) : TS :=
  (tSeq (tAsg (tVar 0) (gTup K 3 (gCons (gName 2) (gCons (gName 3) (gCons (gName 4) gNil)))))
    (tSeq (tAsg (ZW.tDictZip K (tCons (tVar 3) (tCons (tVar 1) tNil))) (gName 5))
    (tRet (tDc (iTup K (tVar 4)) (gName 6) (tTest (tOp (rIn K true) (tOp (rIxT K) (tVar 6) (tC (.int 0))) (tTup (tCons (tC (.str "let")) (tCons (tC (.str "use")) tNil))))) (tOp (rIxT K) (tVar 6) (tC (.int 1))) (tCall (sp_width_number K) [] E0 (tCons (tOp (rIxT K) (tVar 6) (tC (.int 2))) (tCons (tVar 5) tNil))) [6]))))


/-- L_widths_right -/
def rd_L_widths_right (K : PySem.W.Frag) : TS :=
  (tSeq (tAsg (ZW.tDictZip K (tCons (tOp (rIxT K) (tVar 0) (tC (.int 1))) (tCons (tVar 1) tNil))) (gName 2))
    (tSeq (tAsg tDNewK (gName 3))
    (tSeq (tFor (iTup K (tOp (rIxT K) (tVar 0) (tC (.int 2)))) (gName 4) (tIfS (tTest (tOp (rIn K true) (tOp (rIxT K) (tVar 4) (tC (.int 0))) (tTup (tCons (tC (.str "let")) (tCons (tC (.str "use")) tNil))))) (sDPut (tVar 3) (tOp (rIxT K) (tVar 4) (tC (.int 1))) (tOp rAddI (tOp (rIxT K) (tOp (rIxT K) (tVar 4) (tC (.int 2))) (tC (.int 1))) (tDGet2 (tVar 2) (tOp (rIxT K) (tOp (rIxT K) (tVar 4) (tC (.int 2))) (tC (.int 0))) (tC (.int 0)))))
    tNext))
    (tSeq (tAsg (tCall (sp_widths_in K) [] E0 (tCons (tVar 0) (tCons (tVar 1) tNil))) (gName 5))
    (tSeq (tIfS (tOr (tNot (tTru K (tCB (rIsi K) (tCons (tVar 5) (tCons (tC (.ty "dict")) tNil))))) (tTest (tOp rNe (tCB (rReprK K) (tCons (tVar 5) tNil)) (tCB (rReprK K) (tCons (tVar 3) tNil))))) (tRet (tC (.bl false)))
    tNext)
    (tSeq (tDrop (tBM0 K "dict" rDClear (tVar 5)))
    (tRet (tOp rEq (tCB (rReprK K) (tCons (tCall (sp_widths_in K) [] E0 (tCons (tVar 0) (tCons (tVar 1) tNil))) tNil)) (tCB (rReprK K) (tCons (tVar 3) tNil))))))))))


/-- L_terms -/
def rd_L_terms (K : PySem.W.Frag) : TS :=
  (tSeq (tAsg (tDisp [((tC (.str "let")), (tLst (tCons (tC (.int 2)) tNil))), ((tC (.str "rest")), (tLst (tCons (tC (.int 4)) tNil))), ((tC (.str "memory")), (tLst (tCons (tC (.int 4)) (tCons (tC (.int 5)) (tCons (tC (.int 6)) tNil)))))]) (gName 1))
    (tSeq (tIfS (tTest (tOp rEq (tOp (rIxT K) (tVar 0) (tC (.int 0))) (tC (.str "use")))) (tRet (tCB (cListOf K) (tCons (tOp (rIxT K) (tVar 0) (tC (.int 4))) tNil)))
    tNext)
    (tRet (tLc (iList K (tDGet2 (tVar 1) (tOp (rIxT K) (tVar 0) (tC (.int 0))) (tLst tNil))) (gName 2) tYes (tOp (rIxT K) (tVar 0) (tVar 2)) [2]))))


/-- L_kids_right -/
def rd_L_kids_right (K : PySem.W.Frag) (R_L_kids_right : Sp) : TS :=
  (tSeq (tAsg (tCall (sp_L_kids K) [] E0 (tCons (tVar 0) tNil)) (gName 1))
    (tSeq (tAsg (tCall (sp_kids_of K) [] E0 (tCons (tVar 0) tNil)) (gName 2))
    (tSeq (tIfS (tOr (tNot (tTru K (tCB (rIsi K) (tCons (tVar 2) (tCons (tC (.ty "list")) tNil))))) (tTest (tOp rNe (tCB (rReprD K) (tCons (tVar 2) tNil)) (tCB (rReprD K) (tCons (tVar 1) tNil))))) (tRet (tC (.bl false)))
    tNext)
    (tSeq (tDrop (tBM K "list" rAppend (tVar 2) (tCons (tVar 0) tNil)))
    (tRet (tAndT K (tOp rEq (tCB (rReprD K) (tCons (tCall (sp_kids_of K) [] E0 (tCons (tVar 0) tNil)) tNil)) (tCB (rReprD K) (tCons (tVar 1) tNil))) (tCB (rAll K) (tCons (tLc (iList K (tVar 1)) (gName 3) tYes (tCall R_L_kids_right [] E0 (tCons (tVar 3) tNil)) [3]) tNil))))))))


/-- law -/
def rd_law (K : PySem.W.Frag) : TS :=
  (tSeq (tAsg (tCall (sp_L_yard K) [] E0 (tCons (tVar 0) tNil)) (gName 1))
    (tSeq (tAsg (tCB (cTupOf K) (tCons (tCall (sp_L_numbers K 6) [] E0 (tCons (tVar 1) (tCons (tOp (rIxT K) (tVar 1) (tOp rSubI (tCB (cLenSeq K) (tCons (tVar 1) tNil)) (tC (.int 1)))) (tCons (tC (.str "")) (tCons (tTup tNil) (tCons (tLst tNil) tNil)))))) tNil)) (gName 2))
    (tSeq (tAsg (tCall (sp_L_asks K) [] E0 (tCons (tVar 1) tNil)) (gName 3))
    (tSeq (tAsg (tCB (cDictP K) (tCons (tLc (iTup K (tVar 1)) (gName 11) tYes (tTup (tCons (tOp (rIxT K) (tVar 11) (tC (.int 0))) (tCons (tVar 11) tNil))) [11]) tNil)) (gName 4))
    (tSeq (tFor (iRng1 (tCons (tC (.int 2)) tNil)) (gName 5) (tSeq (tAsg (tCall (sp_made_parts K) [] E0 (tCons (tVar 1) tNil)) (gName 6))
    (tSeq (tAsg (tCall (sp_asks_of K) [] E0 (tCons (tVar 1) tNil)) (gName 7))
    (tSeq (tIfS (tOr (tNot (tTru K (tCB (rIsi K) (tCons (tVar 6) (tCons (tC (.ty "tuple")) tNil))))) (tOr (tTest (tOp rNe (tCB (rReprD K) (tCons (tVar 6) tNil)) (tCB (rReprD K) (tCons (tVar 2) tNil)))) (tTest (tOp rNe (tCB (rReprK K) (tCons (tVar 7) tNil)) (tCB (rReprK K) (tCons (tVar 3) tNil)))))) (tRet (tC (.bl false)))
    tNext)
    (tSeq (tIfS (tB (tNotN (tCall (sp_ring_in K) [] E0 (tCons (tVar 7) tNil)))) (tRet (tC (.bl false)))
    tNext)
    (tSeq (tFor (iList K (tCB cListD (tCons (tVar 7) tNil))) (gName 8) (tDrop (tBM K "list" rAppend (tDGet (tVar 7) (tVar 8)) (tCons (tC (.str "more")) tNil))))
    (tDrop (tBM0 K "dict" rDClear (tVar 7)))))))))
    (tSeq (tFor (iTup K (tVar 2)) (gTup K 3 (gCons (gName 9) (gCons (gName 8) (gCons (gName 10) gNil)))) (tIfS (tNot (tTru K (tCall (sp_L_widths_right K) [] E0 (tCons (tDGet (tVar 4) (tVar 8)) (tCons (tVar 10) tNil))))) (tRet (tC (.bl false)))
    tNext))
    (tSeq (tFor (iTup K (tVar 1)) (gName 11) (tFor (iTup K (tOp (rIxT K) (tVar 11) (tC (.int 2)))) (gName 12) (tIfS (tNot (tTru K (tCB (rAll K) (tCons (tLc (iList K (tCall (sp_L_terms K) [] E0 (tCons (tVar 12) tNil))) (gName 13) tYes (tCall (sp_L_kids_right K 8) [] E0 (tCons (tVar 13) tNil)) [13]) tNil)))) (tRet (tC (.bl false)))
    tNext)))
    (tRet (tC (.bl true))))))))))

section
variable {K : PySem.W.Frag} {w : World}
theorem vr_L_mixed (vs H Q E) (h : sp_L_mixed vs H Q E) : rd_L_mixed { nx := fun _ H' => Q .non H', rt := Q } (start ["_law_number", "_law_k"] vs) H := by
  obtain ⟨n, k, rfl, hk, q⟩ := h
  unfold rd_L_mixed
  walk_at "zz"
  exact RetV.go q (Ex.refl H)
def letL : List Nat := (List.range 26).map (· + 97)
theorem let_str : (Str.ofString "abcdefghijklmnopqrstuvwxyz" : Str) = S letL := by decide +kernel
theorem let_ok : okT (Str.ofString "abcdefghijklmnopqrstuvwxyz") 26 := okT.of _ (by decide +kernel)
/-- the sign at a place, by rests -/
def sg (z : Str) (i : Int) : Nat := (atI z.cps.toList (i % z.length)).getD 0
theorem sg_at {z : Str} (h : 0 < z.length) (i : Int) : atI z.cps.toList (i % z.length) = some (sg z i) ∧ sg z i ∈ z.cps.toList := by
  have e : z.cps.toList.length = z.length := Array.length_toList
  obtain ⟨c, h1, h2⟩ := at_some (l := z.cps.toList) (i := i % z.length) (Int.emod_nonneg _ (by omega)) (by rw [e]; exact Int.emod_lt_of_pos _ (by omega))
  unfold sg
  rw [h1]
  exact ⟨rfl, h2⟩
theorem let26 : (Str.ofString "abcdefghijklmnopqrstuvwxyz" : Str).length = 26 := by decide +kernel
theorem let_at (i : Int) : atI (Str.ofString "abcdefghijklmnopqrstuvwxyz" : Str).cps.toList (i % 26) = some (sg (Str.ofString "abcdefghijklmnopqrstuvwxyz") i) ∧ sg (Str.ofString "abcdefghijklmnopqrstuvwxyz") i ∈ (Str.ofString "abcdefghijklmnopqrstuvwxyz" : Str).cps.toList := by
  have := sg_at (z := Str.ofString "abcdefghijklmnopqrstuvwxyz") (by rw [let26]; decide) i
  rw [let26] at this
  exact this
theorem let_occ : ∀ i ∈ List.range 26, Builtin.Str.occurrences (Str.ofString "abcdefghijklmnopqrstuvwxyz") ⟨#[i + 97]⟩ 0 (Str.ofString "abcdefghijklmnopqrstuvwxyz" : Str).length 1 = [i] := by decide +kernel
theorem let_mem {c : Nat} (h : c ∈ (Str.ofString "abcdefghijklmnopqrstuvwxyz" : Str).cps.toList) : ∃ i, i < 26 ∧ c = i + 97 := by
  rw [let_str, S_tl] at h
  obtain ⟨i, hi, rfl⟩ := List.mem_map.mp h
  exact ⟨i, List.mem_range.mp hi, rfl⟩
theorem given_strs (zs : List Str) (f : Nat → Bool) : ∃ zs' : List Str, Evl.given zs.length f (fun i => (zs.map V.str).getD i .non) = zs'.map V.str ∧ ∀ z ∈ zs', z ∈ zs := by
  refine ⟨((List.range zs.length).filter f).map fun i => zs.getD i ⟨#[]⟩, ?_, fun z hz => ?_⟩
  · unfold Evl.given
    rw [List.map_map]
    refine List.map_congr_left fun i hi => ?_
    have hl : i < zs.length := List.mem_range.mp (List.mem_filter.mp hi).1
    simp [hl]
  · obtain ⟨i, hi, rfl⟩ := List.mem_map.mp hz
    have hl : i < zs.length := List.mem_range.mp (List.mem_filter.mp hi).1
    rw [List.getD_eq_getElem?_getD, List.getElem?_eq_getElem hl]
    exact List.getElem_mem hl
theorem strs_flat (zs : List Str) : (zs.map V.str).all flatV = true := by
  rw [List.all_map]
  exact List.all_eq_true.mpr fun _ _ => rfl
theorem told_split : (Txt.split (Str.ofString "part in out wire rest let use table memory if then else cut join fill") (Str.ofString " ")) = M03.toldL.map S := by decide +kernel
/-- names: what the law draws -/
def nmC (c : Nat) : Prop := (48 ≤ c ∧ c ≤ 57) ∨ (97 ≤ c ∧ c ≤ 122)
theorem let_nm {c : Nat} (h : c ∈ (Str.ofString "abcdefghijklmnopqrstuvwxyz" : Str).cps.toList) : nmC c := by
  obtain ⟨i, hi, rfl⟩ := let_mem h
  right
  omega
theorem fig_str : (Str.ofString "0123456789" : Str) = S ((List.range 10).map (· + 48)) := by decide +kernel
theorem sg_let (i : Int) : sg (Str.ofString "abcdefghijklmnopqrstuvwxyz") i = (i % 26).toNat + 97 := by
  unfold sg
  have h0 := Int.emod_nonneg i (show (26 : Int) ≠ 0 by decide)
  have h1 := Int.emod_lt_of_pos i (show (0 : Int) < 26 by decide)
  obtain ⟨m, hm⟩ := Int.eq_ofNat_of_zero_le h0
  rw [let26]
  show (atI _ (i % 26)).getD 0 = (i % 26).toNat + 97
  rw [hm, let_str, S_tl]
  have hm' : m < 26 := by omega
  rw [atI_nat (v := m + 97) (by unfold letL; rw [List.getElem?_map, List.getElem?_range hm'] <;> rfl)]
  simp
theorem let36 : (Str.ofString "abcdefghijklmnopqrstuvwxyz" ++ Str.ofString "0123456789" : Str) = S (letL ++ (List.range 10).map (· + 48)) := by
  rw [let_str, fig_str, S_app]
theorem sg_36 (i : Int) : sg (Str.ofString "abcdefghijklmnopqrstuvwxyz" ++ Str.ofString "0123456789") i = if (i % 36).toNat < 26 then (i % 36).toNat + 97 else (i % 36).toNat + 22 := by
  unfold sg
  have h0 := Int.emod_nonneg i (show (36 : Int) ≠ 0 by decide)
  have h1 := Int.emod_lt_of_pos i (show (0 : Int) < 36 by decide)
  obtain ⟨m, hm⟩ := Int.eq_ofNat_of_zero_le h0
  have l36 : (Str.ofString "abcdefghijklmnopqrstuvwxyz" ++ Str.ofString "0123456789" : Str).length = 36 := by
    rw [let36, S_len]
    decide
  rw [l36]
  show (atI _ (i % 36)).getD 0 = _
  rw [hm, let36, S_tl]
  have hm' : m < 36 := by omega
  by_cases h : m < 26
  · rw [if_pos (by simpa using h), atI_nat (v := m + 97) (by
      rw [List.getElem?_append_left (by simpa [letL] using h)]
      unfold letL
      rw [List.getElem?_map, List.getElem?_range h] <;> rfl)]
    simp
  · rw [if_neg (by simpa using h), atI_nat (v := m + 22) (by
      rw [List.getElem?_append_right (by simp [letL]; omega)]
      rw [List.getElem?_map, List.getElem?_range (by simp [letL]; omega)]
      simp [letL]
      omega)]
    simp
theorem tl_len (z : Str) : z.cps.toList.length = z.length := Array.length_toList
theorem str_ext {a b : Str} (h : a.cps.toList = b.cps.toList) : a = b := by
  rw [S_of a, S_of b, h]
/-- texts alike but for one sign -/
theorem mid_inj {P T : Str} {c e : Nat} (h : P ++ ⟨#[c]⟩ ++ T = P ++ ⟨#[e]⟩ ++ T) : c = e := by
  have h := congrArg (fun z : Str => z.cps.toList) h
  simp only [tl_app] at h
  have h2 := List.append_cancel_left (List.append_cancel_right h)
  simpa using h2
theorem nodup_map {f : Nat → Str} {n : Nat} (h : ∀ i j, i < n → j < n → f i = f j → i = j) : ((List.range n).map f).Nodup := by
  refine List.pairwise_map.mpr (List.Pairwise.imp_of_mem (fun ha hb hne e => hne (h _ _ (List.mem_range.mp ha) (List.mem_range.mp hb) e)) List.nodup_range)
theorem nmS_of {z : Str} (h1 : 1 ≤ z.length) (h2 : okT z 20) (h3 : ∀ c ∈ z.cps.toList, nmC c) : nmS z := ⟨h1, h2.1, h3⟩
theorem cut_mem {z : Str} {lo hi : Option Int} {c : Nat} (h : c ∈ (cutS z lo hi).cps.toList) : c ∈ z.cps.toList := by
  have e : cutS z lo hi = S (cutL z.cps.toList lo hi) := by
    conv => lhs; rw [S_of z]
    exact S_cut _ _ _
  rw [e, S_tl] at h
  unfold cutL at h
  exact List.mem_of_mem_drop (List.mem_of_mem_take h)
theorem pre_len {z : Str} {k : Nat} (h : k ≤ z.length) : (cutS z none (some (k : Int))).length = k := by
  have e : cutS z none (some (k : Int)) = S (cutL z.cps.toList none (some (k : Int))) := by
    conv => lhs; rw [S_of z]
    exact S_cut _ _ _
  rw [e, S_len, cutL_to, List.length_take, tl_len]
  omega
theorem pre_head {z : Str} {k : Nat} {c : Nat} {r : List Nat} (h : z.cps.toList = c :: r) : (cutS z none (some ((k : Int) + 1))).cps.toList.head? = some c := by
  have e : cutS z none (some ((k : Int) + 1)) = S (cutL z.cps.toList none (some (((k + 1 : Nat) : Int)))) := by
    conv => lhs; rw [S_of z]
    exact S_cut _ _ _
  rw [e, S_tl, cutL_to, h, List.take_succ_cons] <;> rfl
theorem vr_L_names (vs H Q E) (h : sp_L_names K vs H Q E) : (rd_L_names K) { nx := fun _ H' => Q .non H', rt := Q } (start ["_law_number", "_law_letters", "_law_base", "_law_size", "_law_at", "_law_signs", "_law_some", "_law_found", "_law_first_here", "_law_other", "_law_told", "_law_j", "_law_k", "_law_sign", "_law_name"] vs) H := by
  obtain ⟨n, rfl, hn, q⟩ := h
  unfold rd_L_names
  refine z_seq (z_asg (z_c (z_gname ?_)))
  refine z_seq ?_
  walk_at "zz"
  refine z_CR1 ⟨by decide, by decide⟩ (fun _ => true) (fun k => .str ⟨#[sg (Str.ofString "abcdefghijklmnopqrstuvwxyz") (mixN n k)]⟩) (fun _ => rfl) (fun i H' hi e => fun H2 e2 Q' q' => q' _ (Ex.refl _)) (fun i H' hi e _ => fun H2 e2 Q' q' => ?_) (fun p H1 hp e1 h1 => ?_)
  · walk_at "zz"
    refine ⟨n, i, rfl, ⟨by omega, by omega⟩, fun H3 e3 => ?_⟩
    walk_at "zz"
    refine z_ixS (szl (by decide +kernel)) (let_at _).1 ?_
    exact q' _ e3
  rw [given_all] at h1
  walk_at "zz"
  refine z_join1 (n := 8) (f := fun k => sg (Str.ofString "abcdefghijklmnopqrstuvwxyz") (mixN n k)) h1 (by decide) ?_
  have okB : okT (S ((List.range 8).map fun k : Nat => sg (Str.ofString "abcdefghijklmnopqrstuvwxyz") (mixN n k))) 8 := by
    refine okT.S (by simp) fun c hc => ?_
    obtain ⟨k, _, rfl⟩ := List.mem_map.mp hc
    exact let_ok.2 _ (let_at _).2
  have lenB : (S ((List.range 8).map fun k : Nat => sg (Str.ofString "abcdefghijklmnopqrstuvwxyz") (mixN n k))).length = 8 := by rw [S_len]; simp
  have nmB : ∀ c ∈ (S ((List.range 8).map fun k : Nat => sg (Str.ofString "abcdefghijklmnopqrstuvwxyz") (mixN n k))).cps.toList, nmC c := fun c hc => by
    rw [S_tl] at hc
    obtain ⟨k, _, rfl⟩ := List.mem_map.mp hc
    exact let_nm (let_at _).2
  have headB : ∃ i r, i < 26 ∧ (S ((List.range 8).map fun k : Nat => sg (Str.ofString "abcdefghijklmnopqrstuvwxyz") (mixN n k))).cps.toList = (i + 97) :: r := by
    obtain ⟨i, hi, e⟩ := let_mem (let_at (mixN n (0 : Nat))).2
    refine ⟨i, ((List.range 8).map fun k : Nat => sg (Str.ofString "abcdefghijklmnopqrstuvwxyz") (mixN n k)).tail, hi, ?_⟩
    rw [S_tl, ← e]
    rfl
  generalize S ((List.range 8).map fun k : Nat => sg (Str.ofString "abcdefghijklmnopqrstuvwxyz") (mixN n k)) = B at okB headB lenB nmB ⊢
  refine z_gname ?_
  refine z_cut (fun σ' H' => ∃ (y3 y4 y5 y6 y8 y9 y10 y11 y12 y13 y14 : Option V) (p : Addr) (zs : List Str), σ' = [some (.int n), some (.str (Str.ofString "abcdefghijklmnopqrstuvwxyz")), some (.str B), y3, y4, y5, y6, some (.ref p), y8, y9, y10, y11, y12, y13, y14] ∧ Ex H H' ∧ H p = none ∧ H' p = some (.lst (zs.map V.str)) ∧ zs.length = 16 ∧ zs.Nodup ∧ ∀ z ∈ zs, nmS z) ?_ (fun σ' H' hm => ?_)
  · walk_at "zz"
    refine ite_b (fun _ => ?_) (fun _ => ?_)
    · walk_at "zz"
      generalize hat : n / 32 % (2 + n / 4 % 7) = at_
      refine z_cut (fun σ' H' => ∃ z, okT z 36 ∧ 0 < z.length ∧ (z = Str.ofString "abcdefghijklmnopqrstuvwxyz" ∨ z = Str.ofString "abcdefghijklmnopqrstuvwxyz" ++ Str.ofString "0123456789") ∧ σ' = [some (.int n), some (.str (Str.ofString "abcdefghijklmnopqrstuvwxyz")), some (.str B), some (.int (2 + n / 4 % 7)), some (.int at_), some (.str z), none, none, none, none, none, none, none, none, none] ∧ H' = H1) ?_ (fun σ' H' hm => ?_)
      · walk_at "zz"
        refine ite_b (fun _ => ?_) (fun _ => ?_)
        · walk_at "zz"
          exact ⟨_, let_ok.mono (by decide), by rw [let26]; decide, .inl rfl, rfl, rfl⟩
        · walk_at "zz"
          refine z_addS (szl (by decide +kernel)) ?_
          walk_at "zz"
          exact ⟨_, let_ok.app (okT.of "0123456789" (n := 10) (by decide +kernel)), by rw [txt_app_len, let26]; omega, .inr rfl, rfl, rfl⟩
      obtain ⟨z, okz, z0, hz, rfl, rfl⟩ := hm
      have nmz : ∀ i : Int, nmC (sg z i) := fun i => by
        rcases hz with rfl | rfl
        · rw [sg_let]
          right
          omega
        · rw [sg_36]
          split
          · right
            omega
          · left
            omega
      have injz : ∀ i j : Nat, i < 16 → j < 16 → sg z (n / 256 + 5 * (i : Int)) = sg z (n / 256 + 5 * (j : Int)) → i = j := fun i j hi hj e => by
        rcases hz with rfl | rfl
        · rw [sg_let, sg_let] at e
          omega
        · rw [sg_36, sg_36] at e
          split at e <;> split at e <;> omega
      walk_at "zz"
      refine z_CR1 ⟨by decide, by decide⟩ (fun _ => true) (fun k => .str ⟨#[sg z (n / 256 + 5 * (k : Int))]⟩) (fun _ => rfl) (fun i H4 hi e4 => fun H5 e5 Q' q' => q' _ (Ex.refl _)) (fun i H4 hi e4 _ => fun H5 e5 Q' q' => ?_) (fun p2 H4 hp2 e4 h4 => ?_)
      · walk_at "zz"
        refine z_lenS (okz.sz (by decide)) ?_
        refine z_i (show (0 : Int) < _ by omega) ?_
        refine z_ixS (okz.sz (by decide)) (sg_at z0 _).1 ?_
        exact q' _ (Ex.refl _)
      rw [given_all, show ((16 : Int).toNat) = 16 from rfl] at h4
      walk_at "zz"
      refine z_CL (xs := (List.range 16).map fun k : Nat => V.str ⟨#[sg z (n / 256 + 5 * (k : Int))]⟩) (sq_of h4) (by simp) (fun _ => true) (fun k => .str (cutS B none (some at_) ++ ⟨#[sg z (n / 256 + 5 * (k : Int))]⟩ ++ cutS B (some (at_ + 1)) (some (2 + n / 4 % 7)))) (fun _ => rfl) (fun i x H5 hi hx e5 => fun H6 e6 Q' q' => q' _ (Ex.refl _)) (fun i x H5 hi hx e5 _ => fun H6 e6 Q' q' => ?_) (fun p3 H5 hp3 e5 h5 => ?_)
      · have hi' : i < 16 := by simpa using hi
        rw [List.getElem?_map, List.getElem?_range hi'] at hx
        obtain rfl := Option.some.inj hx
        have o1 := (okB.cut none (some at_)).app (okT.one okz (sg_at z0 (n / 256 + 5 * (i : Int))).2)
        have o2 := o1.app (okB.cut (some (at_ + 1)) (some (2 + n / 4 % 7)))
        walk_at "zz"
        refine z_slS (okB.sz (by decide)) ?_
        walk_at "zz"
        refine z_addS (by rw [← txt_app_len]; exact o1.sz (by decide)) ?_
        walk_at "zz"
        refine z_slS (okB.sz (by decide)) ?_
        refine z_addS (by rw [← txt_app_len]; exact o2.sz (by decide)) ?_
        exact q' _ (Ex.refl _)
      rw [given_all, List.length_map, List.length_range, show (fun k : Nat => V.str (cutS B none (some at_) ++ ⟨#[sg z (n / 256 + 5 * (k : Int))]⟩ ++ cutS B (some (at_ + 1)) (some (2 + n / 4 % 7)))) = V.str ∘ (fun k : Nat => cutS B none (some at_) ++ ⟨#[sg z (n / 256 + 5 * (k : Int))]⟩ ++ cutS B (some (at_ + 1)) (some (2 + n / 4 % 7))) from rfl, ← List.map_map] at h5
      walk_at "zz"
      refine ⟨_, _, _, _, _, _, _, _, _, _, _, p3, _, rfl, (e1.trans e4).trans e5, fresh_back (e1.trans e4) hp3, h5, by simp, nodup_map fun i j hi hj e => injz i j hi hj (mid_inj e), fun u hu => ?_⟩
      obtain ⟨k, _, rfl⟩ := List.mem_map.mp hu
      refine nmS_of (by rw [txt_app_len, txt_app_len, show (⟨#[sg z (n / 256 + 5 * (k : Int))]⟩ : Str).length = 1 from rfl]; omega) ((((okB.cut none (some at_)).app (okT.one okz (sg_at z0 (n / 256 + 5 * (k : Int))).2)).app (okB.cut (some (at_ + 1)) (some (2 + n / 4 % 7)))).mono (by decide)) fun c hc => ?_
      rw [tl_app, tl_app] at hc
      rcases List.mem_append.mp hc with hc | hc
      · rcases List.mem_append.mp hc with hc | hc
        · exact nmB c (cut_mem hc)
        · rw [show c = sg z (n / 256 + 5 * (k : Int)) by simpa using hc]
          exact nmz _
      · exact nmB c (cut_mem hc)
    · walk_at "zz"
      refine ite_b (fun _ => ?_) (fun _ => ?_)
      · obtain ⟨i0, r0, hi0, hB⟩ := headB
        walk_at "zz"
        refine z_ixS (c := i0 + 97) (okB.sz (by decide)) (show atI _ ((0 : Nat) : Int) = _ from atI_nat (by rw [hB] <;> rfl)) ?_
        walk_at "zz"
        refine ⟨_, _, i0, [], rfl, rfl, let_occ i0 (List.mem_range.mpr hi0), ?_⟩
        walk_at "zz"
        refine z_ixS (szl (by decide +kernel)) (let_at _).1 ?_
        walk_at "zz"
        refine z_slS (okB.sz (by decide)) ?_
        have oA := (okT.one let_ok (let_at ((i0 : Int) + 1 + n / 4 % 25)).2).app (okB.cut (some 1) none)
        refine z_addS (by rw [← txt_app_len]; exact oA.sz (by decide)) ?_
        have hdA : ((⟨#[sg (Str.ofString "abcdefghijklmnopqrstuvwxyz") ((i0 : Int) + 1 + n / 4 % 25)]⟩ : Str) ++ cutS B (some 1) none).cps.toList = ((((i0 : Int) + 1 + n / 4 % 25) % 26).toNat + 97) :: (cutS B (some 1) none).cps.toList := by
          rw [tl_app, sg_let] <;> rfl
        have lenA : ((⟨#[sg (Str.ofString "abcdefghijklmnopqrstuvwxyz") ((i0 : Int) + 1 + n / 4 % 25)]⟩ : Str) ++ cutS B (some 1) none).length = 8 := by
          rw [txt_app_len, show (⟨#[sg (Str.ofString "abcdefghijklmnopqrstuvwxyz") ((i0 : Int) + 1 + n / 4 % 25)]⟩ : Str).length = 1 from rfl]
          have e : cutS B (some 1) none = S (cutL B.cps.toList (some ((1 : Nat) : Int)) none) := by
            conv => lhs; rw [S_of B]
            exact S_cut _ _ _
          rw [e, S_len, cutL_from, List.length_drop, tl_len, lenB]
        have nmA : ∀ c ∈ ((⟨#[sg (Str.ofString "abcdefghijklmnopqrstuvwxyz") ((i0 : Int) + 1 + n / 4 % 25)]⟩ : Str) ++ cutS B (some 1) none).cps.toList, nmC c := fun c hc => by
          rw [hdA] at hc
          rcases List.mem_cons.mp hc with rfl | hc
          · right
            omega
          · exact nmB c (cut_mem hc)
        generalize (⟨#[sg (Str.ofString "abcdefghijklmnopqrstuvwxyz") ((i0 : Int) + 1 + n / 4 % 25)]⟩ : Str) ++ cutS B (some 1) none = A at oA hdA lenA nmA ⊢
        walk_at "zz"
        refine z_CR1 ⟨by decide, by decide⟩ (fun _ => true) (fun k => .str (cutS B none (some ((k : Int) + 1)))) (fun _ => rfl) (fun i H4 hi e4 => fun H5 e5 Q' q' => q' _ (Ex.refl _)) (fun i H4 hi e4 _ => fun H5 e5 Q' q' => ?_) (fun p2 H4 hp2 e4 h4 => ?_)
        · walk_at "zz"
          refine z_slS (okB.sz (by decide)) ?_
          exact q' _ (Ex.refl _)
        rw [given_all] at h4
        walk_at "zz"
        refine z_CR1 ⟨by decide, by decide⟩ (fun _ => true) (fun k => .str (cutS A none (some ((k : Int) + 1)))) (fun _ => rfl) (fun i H5 hi e5 => fun H6 e6 Q' q' => q' _ (Ex.refl _)) (fun i H5 hi e5 _ => fun H6 e6 Q' q' => ?_) (fun p3 H5 hp3 e5 h5 => ?_)
        · walk_at "zz"
          refine z_slS (oA.sz (by decide)) ?_
          exact q' _ (Ex.refl _)
        rw [given_all] at h5
        refine z_cat (e5 _ _ h4) h5 (szl (by simp)) fun p4 hp4 => ?_
        have e6 : Ex H5 (upd H5 p4 (.lst ((List.range (8 : Int).toNat).map (fun k : Nat => V.str (cutS B none (some ((k : Int) + 1)))) ++ (List.range (8 : Int).toNat).map (fun k : Nat => V.str (cutS A none (some ((k : Int) + 1))))))) := Ex.new hp4
        have eA := ((e1.trans e4).trans e5).trans e6
        have lb : ∀ {z : Str} (_ : z.length = 8) (k : Nat), k < 8 → (cutS z none (some ((k : Int) + 1))).length = k + 1 := fun h k hk => pre_len (k := k + 1) (by omega)
        walk_at "zz"
        refine ⟨_, _, _, _, _, _, _, _, _, _, _, p4, (List.range 8).map (fun k : Nat => cutS B none (some ((k : Int) + 1))) ++ (List.range 8).map (fun k : Nat => cutS A none (some ((k : Int) + 1))), rfl, eA, fresh_back ((e1.trans e4).trans e5) hp4, ?_, by simp, ?_, fun u hu => ?_⟩
        · rw [upd_same, List.map_append, List.map_map, List.map_map] <;> rfl
        · refine List.nodup_append.mpr ⟨nodup_map fun i j hi hj e => ?_, nodup_map fun i j hi hj e => ?_, fun x hx y hy e => ?_⟩
          · have := congrArg Str.length e
            rw [lb lenB i hi, lb lenB j hj] at this
            omega
          · have := congrArg Str.length e
            rw [lb lenA i hi, lb lenA j hj] at this
            omega
          · obtain ⟨i, _, rfl⟩ := List.mem_map.mp hx
            obtain ⟨j, _, rfl⟩ := List.mem_map.mp hy
            have h1 := pre_head (k := i) hB
            have h2 := pre_head (k := j) hdA
            rw [e, h2] at h1
            have := Option.some.inj h1
            omega
        · rcases List.mem_append.mp hu with hu | hu
          · obtain ⟨k, hk, rfl⟩ := List.mem_map.mp hu
            exact nmS_of (by rw [lb lenB k (List.mem_range.mp hk)]; omega) ((okB.cut none _).mono (by decide)) fun c hc => nmB c (cut_mem hc)
          · obtain ⟨k, hk, rfl⟩ := List.mem_map.mp hu
            exact nmS_of (by rw [lb lenA k (List.mem_range.mp hk)]; omega) ((oA.cut none _).mono (by decide)) fun c hc => nmA c (cut_mem hc)
      · walk_at "zz"
        refine z_CR1 ⟨by decide, by decide⟩ (fun _ => true) (fun k => .str ⟨#[sg (Str.ofString "abcdefghijklmnopqrstuvwxyz") (n / 4 + 7 * (k : Int))]⟩) (fun _ => rfl) (fun i H4 hi e4 => fun H5 e5 Q' q' => q' _ (Ex.refl _)) (fun i H4 hi e4 _ => fun H5 e5 Q' q' => ?_) (fun p2 H4 hp2 e4 h4 => ?_)
        · walk_at "zz"
          refine z_ixS (szl (by decide +kernel)) (let_at _).1 ?_
          exact q' _ (Ex.refl _)
        rw [given_all, show ((16 : Int).toNat) = 16 from rfl, show (fun k : Nat => V.str ⟨#[sg (Str.ofString "abcdefghijklmnopqrstuvwxyz") (n / 4 + 7 * (k : Int))]⟩) = V.str ∘ (fun k : Nat => ⟨#[sg (Str.ofString "abcdefghijklmnopqrstuvwxyz") (n / 4 + 7 * (k : Int))]⟩) from rfl, ← List.map_map] at h4
        walk_at "zz"
        refine ⟨_, _, _, _, _, _, _, _, _, _, _, p2, _, rfl, e1.trans e4, fresh_back e1 hp2, h4, by simp, nodup_map fun i j hi hj e => ?_, fun u hu => ?_⟩
        · have h1 := congrArg (fun z : Str => z.cps.toList) e
          have h1 : sg (Str.ofString "abcdefghijklmnopqrstuvwxyz") (n / 4 + 7 * (i : Int)) = sg (Str.ofString "abcdefghijklmnopqrstuvwxyz") (n / 4 + 7 * (j : Int)) := by simpa using h1
          rw [sg_let, sg_let] at h1
          omega
        · obtain ⟨k, hk, rfl⟩ := List.mem_map.mp hu
          refine nmS_of (show 1 ≤ 1 from Nat.le_refl _) ((okT.one let_ok (let_at _).2).mono (by decide)) fun c hc => ?_
          rw [show c = sg (Str.ofString "abcdefghijklmnopqrstuvwxyz") (n / 4 + 7 * (k : Int)) by simpa using hc, sg_let]
          right
          omega
  · obtain ⟨y3, y4, y5, y6, y8, y9, y10, y11, y12, y13, y14, p, zs, rfl, e, hp, hz, lz, ndz, oz⟩ := hm
    walk_at "zz"
    refine ⟨_, _, rfl, rfl, by decide +kernel, by decide +kernel, fun t ht => ?_⟩
    rw [told_split]
    have e1 : Ex H' (upd H' t (.lst ((M03.toldL.map S).map V.str))) := Ex.new ht
    have ut : upd H' t (.lst ((M03.toldL.map S).map V.str)) t = some (.lst ((M03.toldL.map S).map V.str)) := upd_same
    have hz1 := e1 _ _ hz
    generalize upd H' t (.lst ((M03.toldL.map S).map V.str)) = H1 at e1 ut hz1 ⊢
    walk_at "zz"
    refine z_CL (xs := zs.map V.str) (sq_of hz1) (by rw [List.length_map, lz]; decide) (fun i => inV ((zs.map V.str).getD i .non) ((M03.toldL.map S).map V.str)) (fun i => (zs.map V.str).getD i .non) (fun _ => rfl) (fun i x H2 hi hx e2 => fun H3 e3 Q' q' => ?_) (fun i x H2 hi hx e2 _ => fun H3 e3 Q' q' => ?_) (fun g H2 hg e2 h2 => ?_)
    · have ex : (zs.map V.str).getD i .non = x := by rw [List.getD_eq_getElem?_getD, hx] <;> rfl
      obtain ⟨z, _, rfl⟩ := List.mem_map.mp (List.mem_of_getElem? hx)
      walk_at "zz"
      refine z_inL (sq_of (e3 _ _ (e2 _ _ ut))) rfl (strs_flat _) ?_
      walk_at "zz"
      have := q' H3 (Ex.refl _)
      rw [ex] at this
      exact this
    · have ex : (zs.map V.str).getD i .non = x := by rw [List.getD_eq_getElem?_getD, hx] <;> rfl
      rw [ex] at q'
      walk_at "zz"
      exact q' H3 (Ex.refl _)
    rw [List.length_map] at h2
    obtain ⟨zs', e', m'⟩ := given_strs zs fun i => inV ((zs.map V.str).getD i .non) ((M03.toldL.map S).map V.str)
    rw [e'] at h2
    obtain ⟨d1, d2, d3⟩ := strs_dp (K := K) (H := H2) fun z hz => ⟨20, (oz z (m' z hz)).ok⟩
    walk_at "zz"
    refine ⟨szl (by simp), fun c hc => ?_⟩
    have ec : Ex H2 (upd H2 c (.lst [])) := Ex.new hc
    refine z_neNil (sq_of (ec _ _ h2)) (dpAll_mono ec d1) (sq_of upd_same) d2 (by omega) ?_
    have eA := ((e.trans e1).trans e2).trans ec
    walk_at "zz"
    refine ite_b (fun _ => ?_) (fun _ => ?_)
    · walk_at "zz"
      refine z_CR1 ⟨by decide, by decide⟩ (fun _ => true) (fun k => .str (Str.ofString "q" ++ ⟨#[letL.getD k 0]⟩)) (fun _ => rfl) (fun i H4 hi e4 => fun H5 e5 Q' q' => q' _ (Ex.refl _)) (fun i H4 hi e4 _ => fun H5 e5 Q' q' => ?_) (fun p2 H4 hp2 e4 h4 => ?_)
      · walk_at "zz"
        have hi' : i < 16 := hi
        refine z_ixS (szl (by decide +kernel)) (show atI _ ((i : Nat) : Int) = some (letL.getD i 0) from atI_nat ?_) ?_
        · rw [let_str, S_tl, List.getD_eq_getElem?_getD, List.getElem?_eq_getElem (show i < letL.length by simp [letL]; omega)] <;> rfl
        refine z_addS (szl (by rw [show (Str.ofString "q" : Str).length = 1 by decide +kernel]; exact (show 1 + 1 ≤ 1000 by decide))) ?_
        exact q' _ (Ex.refl _)
      · rw [given_all, show ((16 : Int).toNat) = 16 from rfl, show (fun k : Nat => V.str (Str.ofString "q" ++ ⟨#[letL.getD k 0]⟩)) = V.str ∘ (fun k : Nat => Str.ofString "q" ++ ⟨#[letL.getD k 0]⟩) from rfl, ← List.map_map] at h4
        have lg : ∀ k : Nat, k < 16 → letL.getD k 0 = k + 97 := by decide
        refine (q _ (by simp) (nodup_map fun i j hi hj e => ?_) fun z hz => ?_).go eA hp2 e4 h4
        · have h1 := congrArg (fun z : Str => z.cps.toList) e
          simp only [tl_app] at h1
          have h1 := List.append_cancel_left h1
          have h1 : letL.getD i 0 = letL.getD j 0 := by simpa using h1
          rw [lg i hi, lg j hj] at h1
          omega
        · obtain ⟨k, hk, rfl⟩ := List.mem_map.mp hz
          have hk' := List.mem_range.mp hk
          refine nmS_of (by rw [txt_app_len, show (⟨#[letL.getD k 0]⟩ : Str).length = 1 from rfl]; omega) (((okT.of "q" (n := 1) (by decide +kernel)).app (okT.one let_ok ?_)).mono (by decide)) fun c hc => ?_
          · rw [let_str, S_tl, List.getD_eq_getElem?_getD, List.getElem?_eq_getElem (show k < letL.length by simp [letL]; omega)]
            exact List.getElem_mem _
          · rw [tl_app] at hc
            rcases List.mem_append.mp hc with hc | hc
            · rw [show c = 113 by revert hc; rw [show (Str.ofString "q" : Str).cps.toList = [113] by decide +kernel]; simp]
              right
              decide
            · rw [show c = letL.getD k 0 by simpa using hc, lg k hk']
              right
              omega
    · walk_at "zz"
      have := ec _ _ (e2 _ _ hz1)
      exact q zs lz ndz oz p _ hp eA this
theorem vr_L_cell (vs H Q E) (h : sp_L_cell K vs H Q E) : (rd_L_cell K) { nx := fun _ H' => Q .non H', rt := Q } (start ["_law_script", "_law_k", "_law_cell_here"] vs) H := by
  obtain ⟨a, ns, k, rfl, ha, hk, q⟩ := h
  unfold rd_L_cell
  unfold cellN at q
  walk_at "zz"
  refine z_lenL ha ?_
  walk_at "zz"
  rw [List.length_map]
  refine ite_b (fun h => ?_) (fun h => ?_)
  · have hl : (0 : Int) < (ns.length : Int) := of_decide_eq_true h
    rw [if_pos (by omega)] at q
    walk_at "zz"
    refine z_lenL ha ?_
    rw [List.length_map]
    walk_at "zz"
    have h1 := Int.emod_nonneg k (show (ns.length : Int) ≠ 0 by omega)
    have h2 := Int.emod_lt_of_pos k hl
    obtain ⟨j, hj⟩ := Int.eq_ofNat_of_zero_le h1
    have jl : j < ns.length := by omega
    rw [hj, Int.toNat_natCast] at q
    rw [hj]
    refine z_ixL ha (v := .int (ns.getD j 0)) (atI_nat (by rw [List.getElem?_map, List.getD_eq_getElem?_getD, List.getElem?_eq_getElem jl] <;> rfl)) ?_
    walk_at "zz"
    exact RetV.go q (Ex.refl H)
  · have hl : ¬ (0 : Int) < (ns.length : Int) := of_decide_eq_false h
    rw [if_neg (by omega)] at q
    walk_at "zz"
    exact RetV.go q (Ex.refl H)
/-- a list of numbers stays where another thing is written -/
theorem sq_other {H : Hp} {a d : Addr} {ns : List Int} {y : V} {r : List V} {o : HO} (h : SqL K H a (ns.map V.int)) (hd : H d = some (.lst (.ref a :: y :: r))) : SqL K (upd H d o) a (ns.map V.int) := by
  rcases h with h | h
  · have ne : a ≠ d := fun z => by
      subst z
      rcases h with h | ⟨ob, h⟩
      · rw [hd] at h
        have h' := HO.lst.inj (Option.some.inj h)
        cases ns with
        | nil => cases h'
        | cons i r => cases h'
      · rw [hd] at h
        cases h
    refine .inl ?_
    rcases h with h | ⟨ob, h⟩
    · exact .inl (by rw [upd_ne ne]; exact h)
    · exact .inr ⟨ob, by rw [upd_ne ne]; exact h⟩
  · exact .inr h
theorem vr_L_next (vs H Q E) (h : sp_L_next K vs H Q E) : (rd_L_next K) { nx := fun _ H' => Q .non H', rt := Q } (start ["_law_draw"] vs) H := by
  obtain ⟨d, a, ns, k, rfl, ⟨hd, ha⟩, hk, q⟩ := h
  unfold rd_L_next
  walk_at "zz"
  refine z_ixL (sq_of hd) (show atI _ ((1 : Nat) : Int) = some (.int (k : Int)) from atI_nat rfl) ?_
  walk_at "zz"
  refine ⟨d, _, 1, 1, rfl, rfl, hd, rfl, ?_⟩
  have eS : ([.ref a, .int (k : Int)] : List V).set 1 (.int ((k : Int) + 1)) = [.ref a, .int ((k + 1 : Nat) : Int)] := rfl
  rw [eS]
  have ud : upd H d (.lst [.ref a, .int ((k + 1 : Nat) : Int)]) d = some (.lst [.ref a, .int ((k + 1 : Nat) : Int)]) := upd_same
  have sa := sq_other (o := .lst [.ref a, .int ((k + 1 : Nat) : Int)]) ha hd
  walk_at "zz"
  refine z_ixL (sq_of ud) (show atI _ ((0 : Nat) : Int) = some (.ref a) from atI_nat rfl) ?_
  walk_at "zz"
  refine z_ixL (sq_of ud) (show atI _ ((1 : Nat) : Int) = some (.int ((k + 1 : Nat) : Int)) from atI_nat rfl) ?_
  walk_at "zz"
  refine ⟨a, ns, ((k + 1 : Nat) : Int), rfl, sa, ⟨by omega, by omega⟩, fun H2 e2 => ?_⟩
  obtain ⟨b0, b1⟩ := cellN_b ns ((k + 1 : Nat) : Int)
  exact q _ H2 b0 b1 ⟨e2 _ _ ud, ex_l e2 sa⟩ ((But.put (by simp)).trans (But.ex e2))
theorem Dr.ex {H H' : Hp} {d a : Addr} {ns : List Int} {k : Nat} (e : Ex H H') (h : Dr K H d a ns k) : Dr K H' d a ns k := ⟨e _ _ h.1, ex_l e h.2⟩
theorem Dr.tk {H H' : Hp} {d a : Addr} {ns : List Int} {k : Nat} (h : Dr K H d a ns k) (b : But [d] H H') : Tk H H' := .but b fun p hp => by
  rw [List.mem_singleton.mp hp]
  exact ⟨_, h.1⟩
/-- a list stays where another one is changed -/
theorem sq_bu {H H' : Hp} {p d : Addr} {xs ys : List V} (h : SqL K H p xs) (hd : H d = some (.lst ys)) (ne : xs ≠ ys) (b : But [d] H H') : SqL K H' p xs := by
  rcases h with h | h
  · refine .inl (rd_bu (fun z => ?_) h)
    subst z
    rcases h with h | ⟨o, h⟩ <;> rw [hd] at h <;> cases h
    exact ne rfl
  · exact .inr h
where
  rd_bu {u : HO} (ne : p ≠ d) (h : Rd H p u) : Rd H' p u := by
    rcases h with h | ⟨o, h⟩
    · exact .inl (b _ _ (by simp [ne]) h)
    · exact .inr ⟨o, b _ _ (by simp [ne]) h⟩
theorem ps_bu {H H' : Hp} {p d a : Addr} {ns : List Int} {k : Nat} {ps : List Str} (h : PsAt K H p ps) (hd : Dr K H d a ns k) (b : But [d] H H') : PsAt K H' p ps := ⟨sq_bu h.1 hd.1 (fun z => by
  cases ps with
  | nil => cases z
  | cons x r => cases z) b, h.2⟩
theorem ps_ex {H H' : Hp} {p : Addr} {ps : List Str} (e : Ex H H') (h : PsAt K H p ps) : PsAt K H' p ps := ⟨ex_l e h.1, h.2⟩
theorem at_ints {l : List Int} {i : Int} (h0 : 0 ≤ i) (h : i < l.length) : ∃ x, atI (l.map V.int) i = some (.int x) ∧ x ∈ l := by
  obtain ⟨m, rfl⟩ := Int.eq_ofNat_of_zero_le h0
  have hm : m < l.length := by omega
  exact ⟨l[m], atI_nat (by rw [List.getElem?_map, List.getElem?_eq_getElem hm] <;> rfl), List.getElem_mem hm⟩
theorem at_strs {l : List Str} {i : Int} (h0 : 0 ≤ i) (h : i < l.length) : ∃ x, atI (l.map V.str) i = some (.str x) ∧ x ∈ l := by
  obtain ⟨m, rfl⟩ := Int.eq_ofNat_of_zero_le h0
  have hm : m < l.length := by omega
  exact ⟨l[m], atI_nat (by rw [List.getElem?_map, List.getElem?_eq_getElem hm] <;> rfl), List.getElem_mem hm⟩
theorem at_tu {H : Hp} {xs : List V} {ds : List PyData} {i : Int} (t : TuAll H xs ds) (h0 : 0 ≤ i) (h : i < ds.length) : ∃ x d, atI xs i = some x ∧ d ∈ ds ∧ Tu H x d ∧ ds[i.toNat]? = some d := by
  obtain ⟨m, rfl⟩ := Int.eq_ofNat_of_zero_le h0
  have hm : m < ds.length := by omega
  obtain ⟨x, hx, tx⟩ := t.getD (List.getElem?_eq_getElem hm)
  exact ⟨x, ds[m], atI_nat hx, List.getElem_mem hm, tx, by rw [Int.toNat_natCast]; exact List.getElem?_eq_getElem hm⟩
theorem cl_str {z : Str} {n : Nat} (h : okT z n) : cl (.str z) = true := (Bool.and_eq_true_iff.mp (strs_dp (K := []) (H := fun _ => none) (zs := [z]) fun y hy => ⟨n, by rw [List.mem_singleton.mp hy]; exact h⟩).2.1).1
theorem wOk.t {ps : List Str} {w : Wd} (h : wOk ps w) (hp : ∀ z ∈ ps, nmS z) : okT w.1 20 := by
  rcases h with ⟨h, _⟩ | ⟨h, _⟩
  · rw [h]
    exact (okT.of "" (n := 0) (by decide)).mono (by decide)
  · exact (hp _ h).ok
theorem wd_cl {w : Wd} (h : okT w.1 20) : cl (wdD w) = true := by
  show (cl (.str w.1) && (true && true)) = true
  rw [cl_str h] <;> rfl
theorem wd_inj {w u : Wd} : wdD w = wdD u ↔ w = u := ⟨fun h => by
  injection h with h
  injection h with h1 h2
  injection h1 with h1
  injection h2 with h2 _
  injection h2 with h2
  exact Prod.ext h1 h2, fun h => by rw [h]⟩
theorem cl_kw (s : String) : cl (.str (Str.ofString s)) = true := cl_str (okT.of s (Nat.le_refl _))
theorem trm_cl {ps : List Str} (hp : ∀ z ∈ ps, nmS z) : ∀ t : Trm, t.ok ps → cl t.d = true ∧ t.d.depth ≤ t.deep + 1
  | .num n w, h => by
    refine ⟨?_, (by decide : 2 ≤ 2)⟩
    show (cl (.str (Str.ofString "number")) && (true && (cl (wdD w) && true))) = true
    rw [cl_kw "number", wd_cl (wOk.t (ps := ps) h.2.2 hp)] <;> rfl
  | .name x, h => by
    refine ⟨?_, (by decide : 1 ≤ 2)⟩
    show (cl (.str (Str.ofString "name")) && (cl (.str x) && true)) = true
    rw [cl_kw "name", cl_str (nmS.ok h)] <;> rfl
  | .of_ u d, h => by
    refine ⟨?_, (by decide : 1 ≤ 2)⟩
    show (cl (.str (Str.ofString "of")) && (cl (.str u) && (cl (.str d) && true))) = true
    rw [cl_kw "of", cl_str (nmS.ok h.1), cl_str (nmS.ok h.2)] <;> rfl
  | .at_ s t, h => by
    obtain ⟨c, e⟩ := trm_cl hp t h.2
    refine ⟨?_, ?_⟩
    · show (cl (.str (Str.ofString "at")) && (cl (.str s) && (cl t.d && true))) = true
      rw [cl_kw "at", cl_str (nmS.ok h.1), c] <;> rfl
    · show max 0 (max 0 (max t.d.depth 0)) + 1 ≤ t.deep + 1 + 1
      omega
  | .not_ t, h => by
    obtain ⟨c, e⟩ := trm_cl hp t h
    refine ⟨?_, ?_⟩
    · show (cl (.str (Str.ofString "not")) && (cl t.d && true)) = true
      rw [cl_kw "not", c] <;> rfl
    · show max 0 (max t.d.depth 0) + 1 ≤ t.deep + 1 + 1
      omega
  | .two s a b, h => by
    obtain ⟨c, e⟩ := trm_cl hp a h.2.1
    obtain ⟨c2, e2⟩ := trm_cl hp b h.2.2
    refine ⟨?_, ?_⟩
    · show (cl (.str (Str.ofString "two")) && (cl (.str s) && (cl a.d && (cl b.d && true)))) = true
      rw [cl_kw "two", cl_str h.1, c, c2] <;> rfl
    · show max 0 (max 0 (max a.d.depth (max b.d.depth 0))) + 1 ≤ max a.deep b.deep + 1 + 1
      omega
  | .pick a b c, h => by
    obtain ⟨c1, e1⟩ := trm_cl hp a h.1
    obtain ⟨c2, e2⟩ := trm_cl hp b h.2.1
    obtain ⟨c3, e3⟩ := trm_cl hp c h.2.2
    refine ⟨?_, ?_⟩
    · show (cl (.str (Str.ofString "pick")) && (cl a.d && (cl b.d && (cl c.d && true)))) = true
      rw [cl_kw "pick", c1, c2, c3] <;> rfl
    · show max 0 (max a.d.depth (max b.d.depth (max c.d.depth 0))) + 1 ≤ max a.deep (max b.deep c.deep) + 1 + 1
      omega
  | .cut t low w, h => by
    obtain ⟨c, e⟩ := trm_cl hp t h.1
    refine ⟨?_, ?_⟩
    · show (cl (.str (Str.ofString "cut")) && (cl t.d && (true && (cl (wdD w) && true)))) = true
      rw [cl_kw "cut", c, wd_cl (wOk.t (ps := ps) h.2.2.2 hp)] <;> rfl
    · show max 0 (max t.d.depth (max 0 (max 1 0))) + 1 ≤ t.deep + 1 + 1
      have : 1 ≤ t.deep := by cases t <;> simp [Trm.deep]
      omega
  | .join a b, h => by
    obtain ⟨c, e⟩ := trm_cl hp a h.1
    obtain ⟨c2, e2⟩ := trm_cl hp b h.2
    refine ⟨?_, ?_⟩
    · show (cl (.str (Str.ofString "join")) && (cl a.d && (cl b.d && true))) = true
      rw [cl_kw "join", c, c2] <;> rfl
    · show max 0 (max a.d.depth (max b.d.depth 0)) + 1 ≤ max a.deep b.deep + 1 + 1
      omega
  | .fill t w, h => by
    obtain ⟨c, e⟩ := trm_cl hp t h.1
    refine ⟨?_, ?_⟩
    · show (cl (.str (Str.ofString "fill")) && (cl t.d && (cl (wdD w) && true))) = true
      rw [cl_kw "fill", c, wd_cl (wOk.t (ps := ps) h.2 hp)] <;> rfl
    · show max 0 (max t.d.depth (max 1 0)) + 1 ≤ t.deep + 1 + 1
      have : 1 ≤ t.deep := by cases t <;> simp [Trm.deep]
      omega
theorem cl_all {α : Type} {f : α → PyData} {n : Nat} : ∀ {l : List α}, (∀ x ∈ l, cl (f x) = true ∧ (f x).depth ≤ n) → clAll (l.map f) = true ∧ PyData.depthAll (l.map f) ≤ n
  | [], _ => ⟨rfl, Nat.zero_le _⟩
  | x :: l, h => by
    obtain ⟨a, b⟩ := cl_all fun y hy => h y (List.mem_cons_of_mem _ hy)
    obtain ⟨c, d⟩ := h x (List.mem_cons_self ..)
    refine ⟨?_, ?_⟩
    · show (cl (f x) && clAll (l.map f)) = true
      rw [c, a] <;> rfl
    · show max (f x).depth (PyData.depthAll (l.map f)) ≤ n
      omega
/-- a list of such things is told from an empty one -/
theorem z_neTu {H : Hp} {Q : VK} {p c : Addr} {xs : List V} {α : Type} {f : α → PyData} {l : List α} (hx : SqL K H p xs) (t : TuAll H xs (l.map f)) (g : ∀ x ∈ l, cl (f x) = true ∧ (f x).depth ≤ 40) (hc : H c = none) (q : Q (.bl (!l.isEmpty)) (upd H c (.lst []))) : rNeD K (.ref p) (.ref c) (upd H c (.lst [])) Q := by
  obtain ⟨c1, d1⟩ := cl_all g
  have e := Ex.new (o := .lst []) hc
  refine z_neNil (ex_l e hx) (t.ex e).dp (sq_of upd_same) c1 (by omega) ?_
  have : xs.isEmpty = l.isEmpty := by
    have := t.len
    rw [List.length_map] at this
    cases xs <;> cases l <;> first | rfl | simp at this
  rw [this]
  exact q
theorem z_neStr {H : Hp} {Q : VK} {p c : Addr} {zs : List Str} (hx : SqL K H p (zs.map V.str)) (g : ∀ x ∈ zs, nmS x) (hc : H c = none) (q : Q (.bl (!zs.isEmpty)) (upd H c (.lst []))) : rNeD K (.ref p) (.ref c) (upd H c (.lst [])) Q := by
  have e := Ex.new (o := .lst []) hc
  obtain ⟨d1, d2, d3⟩ := strs_dp (K := K) (H := upd H c (.lst [])) (zs := zs) fun z hz => ⟨20, (g z hz).ok⟩
  refine z_neNil (ex_l e hx) d1 (sq_of upd_same) d2 (by rw [d3]; decide) ?_
  rw [show (zs.map V.str).isEmpty = zs.isEmpty by cases zs <;> rfl]
  exact q
theorem sN_b (n : Int) : ∀ i : Nat, 0 ≤ sN n i ∧ sN n i < 2 ^ (25 * i)
  | 0 => ⟨Int.le_refl 0, (by show (0 : Int) < 2 ^ 0; decide)⟩
  | i + 1 => by
    obtain ⟨h0, h1⟩ := sN_b n i
    obtain ⟨m0, m1⟩ := mixN_b n (i : Int)
    obtain ⟨x, hx⟩ := Int.eq_ofNat_of_zero_le h0
    obtain ⟨m, hm⟩ := Int.eq_ofNat_of_zero_le m0
    have e : sN n (i + 1) = ((x * 2 ^ 25 ||| m : Nat) : Int) := by
      show Builtin.bitOr (sN n i * 2 ^ (25 : Int).toNat) (mixN n (i : Int)) = _
      rw [hx, hm, show (x : Int) * 2 ^ (25 : Int).toNat = ((x * 2 ^ 25 : Nat) : Int) by rw [Int.natCast_mul] <;> rfl]
      exact bitOr_nn (Int.natCast_nonneg _) (Int.natCast_nonneg _)
    rw [e]
    have hx1 : x < 2 ^ (25 * i) := by
      rw [hx] at h1
      exact_mod_cast h1
    have hm1 : m < 2 ^ 25 := by
      rw [hm] at m1
      have : m < 33554432 := by omega
      exact this
    refine ⟨Int.natCast_nonneg _, ?_⟩
    have k : x * 2 ^ 25 ||| m < 2 ^ (25 * (i + 1)) := by
      refine Nat.or_lt_two_pow ?_ (Nat.lt_of_lt_of_le hm1 (Nat.pow_le_pow_right (by decide) (by omega)))
      rw [show 25 * (i + 1) = 25 * i + 25 by omega, Nat.pow_add]
      exact Nat.mul_lt_mul_of_pos_right hx1 (by decide)
    exact_mod_cast k
theorem maskI (i : Int) (w : Nat) : Builtin.bitAnd i (1 * 2 ^ ((w : Nat) : Int).toNat - 1) = i % 2 ^ w := by
  rw [Int.one_mul, Int.toNat_natCast]
  exact PySem.W.kbt_mask i w
theorem mask_b (i : Int) {w : Nat} (h : w ≤ 64) : 0 ≤ i % 2 ^ w ∧ i % 2 ^ w < 2 ^ 64 := by
  have p : (0 : Int) < 2 ^ w := by exact_mod_cast Nat.two_pow_pos w
  have q : (2 : Int) ^ w ≤ 2 ^ 64 := by exact_mod_cast Nat.pow_le_pow_right (by decide : 0 < 2) h
  exact ⟨Int.emod_nonneg _ (by omega), Int.lt_of_lt_of_le (Int.emod_lt_of_pos _ p) q⟩
theorem vr_L_word (vs H Q E) (h : sp_L_word vs H Q E) : (rd_L_word K) { nx := fun _ H' => Q .non H', rt := Q } (start ["_law_number", "_law_width_here", "_law_top", "_law_some", "_law_k", "_law_few"] vs) H := by
  obtain ⟨n, wi, rfl, hn, ⟨hw1, hw2⟩, q⟩ := h
  obtain ⟨w, rfl⟩ := Int.eq_ofNat_of_zero_le (show 0 ≤ wi by omega)
  have hw : w ≤ 64 := by omega
  unfold rd_L_word
  walk_at "zz"
  refine z_i (show CShl 1 (w : Int) from ⟨by omega, by have := intBits_le_64 (k := 1) (by decide) (by decide); omega⟩) ?_
  walk_at "zz"
  refine z_FR1 (by decide) (fun i σ' H' => ∃ y4, σ' = [some (.int n), some (.int (w : Int)), some (.int (1 * 2 ^ ((w : Nat) : Int).toNat - 1)), some (.int (sN n i)), y4, none] ∧ Ex H H') ⟨none, rfl, Ex.refl H⟩ (fun i σ' H' hi h => ?_) (fun σ' H' h => ?_)
  · obtain ⟨y4, rfl, e⟩ := h
    have hi' : i < 3 := hi
    obtain ⟨b0, b1⟩ := sN_b n i
    have b2 : sN n i < 2 ^ 64 := Int.lt_of_lt_of_le b1 (by
      have : (2 : Int) ^ (25 * i) = ((2 ^ (25 * i) : Nat) : Int) := by simp
      rw [this]
      have : 2 ^ (25 * i) ≤ 2 ^ 64 := Nat.pow_le_pow_right (by decide) (by omega)
      exact_mod_cast this)
    walk_at "zz"
    refine z_i (show CShl (sN n i) 25 from ⟨by decide, by have := intBits_le_64 (k := sN n i) (by omega) b2; omega⟩) ?_
    walk_at "zz"
    refine ⟨n, i, rfl, ⟨by omega, by omega⟩, fun H2 e2 => ?_⟩
    walk_at "zz"
    exact ⟨_, rfl, e.trans e2⟩
  · obtain ⟨y4, rfl, e⟩ := h
    walk_at "zz"
    refine ⟨_, _, rfl, ?_⟩
    walk_at "zz"
    refine ⟨szl (by simp), fun p hp => ?_⟩
    walk_at "zz"
    rw [maskI, maskI, show ((3 : Int).toNat) = 3 from rfl]
    have top : (1 : Int) * 2 ^ ((w : Nat) : Int).toNat - 1 = 2 ^ w - 1 := by rw [Int.one_mul, Int.toNat_natCast]
    rw [top]
    have p0 : (2 : Int) ≤ 2 ^ w := by
      have : (2 : Int) ^ w = ((2 ^ w : Nat) : Int) := by simp
      rw [this]
      have : 2 ^ 1 ≤ 2 ^ w := Nat.pow_le_pow_right (by decide) (by omega)
      exact_mod_cast this
    have p1 : (2 : Int) ^ w ≤ 2 ^ 64 := by exact_mod_cast Nat.pow_le_pow_right (by decide : 0 < 2) hw
    have m1 := mask_b (sN n 3) hw
    have m2 := mask_b (sN n 3 % 4) hw
    obtain ⟨x, hx, mx⟩ := at_ints (l := [0, 2 ^ w - 1, sN n 3 % 2 ^ w, 1, sN n 3 % 2 ^ w, 2 ^ w - 1 - 1, sN n 3 % 2 ^ w, sN n 3 % 4 % 2 ^ w]) (i := n % 8) (by omega) (by show n % 8 < 8; omega)
    refine z_ixL (sq_of upd_same) hx ?_
    have bx : 0 ≤ x ∧ x < 2 ^ 64 := by
      simp only [List.mem_cons, List.not_mem_nil, or_false] at mx
      rcases mx with rfl | rfl | rfl | rfl | rfl | rfl | rfl | rfl
      · decide
      · omega
      · exact m1
      · decide
      · exact m1
      · omega
      · exact m1
      · exact m2
    exact RetV.go (q x bx.1 bx.2) (e.trans (Ex.new hp))
theorem vr_L_first (vs H Q E) (h : sp_L_first K vs H Q E) : (rd_L_first K) { nx := fun _ H' => Q .non H', rt := Q } (start ["_law_number", "_law_width_here"] vs) H := by
  obtain ⟨n, v, wd, rfl, hn, tv, hw, q⟩ := h
  unfold rd_L_first
  obtain ⟨a, x, y, rfl, ha, tx, ty⟩ := tu2 tv
  cases tu_str tx
  cases tu_int ty
  walk_at "zz"
  refine z_ixT (st_of ha) (show atI _ ((0 : Nat) : Int) = _ from atI_nat rfl) ?_
  walk_at "zz"
  by_cases h : wd.1 = Str.ofString ""
  · rw [decide_eq_true (by rw [h])]
    refine ite_f ?_
    walk_at "zz"
    refine z_ixT (st_of ha) (show atI _ ((1 : Nat) : Int) = _ from atI_nat rfl) ?_
    walk_at "zz"
    exact ⟨n, wd.2, rfl, hn, hw h, q⟩
  · rw [decide_eq_false (fun z => h (by injection z))]
    refine ite_t ?_
    walk_at "zz"
    exact RetV.go (q _ (by omega) (by omega)) (Ex.refl H)
theorem vr_L_width (vs H Q E) (h : sp_L_width K vs H Q E) : (rd_L_width K) { nx := fun _ H' => Q .non H', rt := Q } (start ["_law_draw", "_law_params", "_law_number"] vs) H := by
  obtain ⟨d, a, p, ns, k, ps, rfl, ⟨hd, hk⟩, hp, q⟩ := h
  unfold rd_L_width
  walk_at "zz"
  refine ⟨d, a, ns, k, rfl, hd, hk, fun i H1 i0 i1 hd1 b1 => ?_⟩
  have hp1 := ps_bu hp hd b1
  walk_at "zz"
  refine ⟨szl (by simp), fun c hc => ?_⟩
  refine z_neStr hp1.1 hp1.2.2 hc ?_
  have e2 := Ex.new (o := .lst []) hc
  have hd2 := hd1.ex e2
  have hp2 := ps_ex e2 hp1
  have b2 := b1.trans (But.ex e2)
  generalize upd H1 c (.lst []) = H2 at e2 hd2 hp2 b2 ⊢
  walk_at "zz"
  have last : tRet (tTup (tCons (tC (.str "")) (tCons (tOp (rIxL K) (tLst (tCons (tC (.int 1)) (tCons (tC (.int 1)) (tCons (tC (.int 2)) (tCons (tC (.int 3)) (tCons (tC (.int 4)) (tCons (tC (.int 8)) (tCons (tC (.int 64)) (tCons (tOp rAddI (tC (.int 1)) (tOp rModI (tOp rDivI (tVar 2) (tC (.int 24))) (tC (.int 64)))) tNil))))))))) (tOp rModI (tOp rDivI (tVar 2) (tC (.int 3))) (tC (.int 8)))) tNil))) { nx := fun _ H' => Q .non H', rt := Q } [some (.ref d), some (.ref p), some (.int i)] H2 := by
    walk_at "zz"
    refine ⟨szl (by simp), fun c2 hc2 => ?_⟩
    have e3 := Ex.new (o := .lst [V.int 1, V.int 1, V.int 2, V.int 3, V.int 4, V.int 8, V.int 64, V.int (1 + i / 24 % 64)]) hc2
    walk_at "zz"
    obtain ⟨x, hx, mx⟩ := at_ints (l := [1, 1, 2, 3, 4, 8, 64, 1 + i / 24 % 64]) (i := i / 3 % 8) (by omega) (by show i / 3 % 8 < 8; omega)
    refine z_ixL (sq_of upd_same) hx ?_
    have bx : 1 ≤ x ∧ x ≤ 64 := by
      simp only [List.mem_cons, List.not_mem_nil, or_false] at mx
      omega
    walk_at "zz"
    refine ⟨szl (by simp), fun t ht => ?_⟩
    have e4 := Ex.new (o := .tup [.str (Str.ofString ""), .int x]) ht
    exact q _ _ (Str.ofString "", x) (hd2.ex (e3.trans e4)) (b2.trans (But.ex (e3.trans e4))) (Tu.mk ht (.cons (.str _) (.cons (.int _) .nil))) (.inl ⟨rfl, bx⟩)
  cases ps with
  | nil =>
    refine ite_f ?_
    refine ite_f (z_next ?_)
    exact last
  | cons z r =>
    refine ite_b (fun _ => ?_) (fun h => by simp at h)
    walk_at "zz"
    refine ite_b (fun _ => ?_) (fun _ => ?_)
    · walk_at "zz"
      refine z_lenL hp2.1 ?_
      walk_at "zz"
      refine z_i (show (0 : Int) < ((((z :: r).map V.str).length : Nat) : Int) by rw [List.length_map, List.length_cons]; omega) ?_
      obtain ⟨x, hx, mx⟩ := at_strs (l := z :: r) (i := i / 3 % (((z :: r).map V.str).length : Nat)) (Int.emod_nonneg _ (by rw [List.length_map, List.length_cons]; omega)) (by
        have := Int.emod_lt_of_pos (i / 3) (show (0 : Int) < ((((z :: r).map V.str).length : Nat) : Int) by rw [List.length_map, List.length_cons]; omega)
        rw [List.length_map] at this ⊢
        exact this)
      refine z_ixL hp2.1 hx ?_
      walk_at "zz"
      refine ⟨szl (by simp), fun t ht => ?_⟩
      have e4 := Ex.new (o := .tup [.str x, .int (i / 6 % 9 - 3)]) ht
      exact q _ _ (x, i / 6 % 9 - 3) (hd2.ex e4) (b2.trans (But.ex e4)) (Tu.mk ht (.cons (.str _) (.cons (.int _) .nil))) (.inr ⟨mx, by show -3 ≤ i / 6 % 9 - 3; omega, by show i / 6 % 9 - 3 ≤ 5; omega⟩)
    · refine z_next ?_
      exact last
theorem wl_mem {ws : Wl} {p : Trm × Wd} (h : p ∈ ws) {x : Str} (hx : x ∈ p.1.names) : x ∈ wsN ws := List.mem_flatMap.mpr ⟨p, h, hx⟩
theorem wl_ex {H H' : Hp} {l : Addr} {ws : Wl} (e : Ex H H') (h : WlAt H l ws) : WlAt H' l ws := by
  obtain ⟨xs, hx, t⟩ := h
  exact ⟨xs, e _ _ hx, t.ex e⟩
theorem wl_bu {H H' : Hp} {l d a : Addr} {ns : List Int} {k : Nat} {ws : Wl} (h : WlAt H l ws) (hd : Dr K H d a ns k) (ne : d ≠ l) (b : But [d] H H') : WlAt H' l ws := by
  obtain ⟨xs, hx, t⟩ := h
  exact ⟨xs, b _ _ (by simp [ne.symm]) hx, t.mono (hd.tk b)⟩
theorem wl_cl {ps : List Str} (hp : ∀ z ∈ ps, nmS z) {ws : Wl} (h : wlOk ps ws) : ∀ p ∈ ws, cl (wlD p) = true ∧ (wlD p).depth ≤ 40 := fun p hm => by
  obtain ⟨h1, h2, h3⟩ := h.1 p hm
  obtain ⟨c, e⟩ := trm_cl hp p.1 h1
  refine ⟨?_, ?_⟩
  · show (cl p.1.d && (cl (wdD p.2) && true)) = true
    rw [c, wd_cl (wOk.t h3 hp)] <;> rfl
  · show max p.1.d.depth (max 1 0) + 1 ≤ 40
    omega
theorem vr_L_leaf (vs H Q E) (h : sp_L_leaf K vs H Q E) : (rd_L_leaf K) { nx := fun _ H' => Q .non H', rt := Q } (start ["_law_draw", "_law_words", "_law_width_here", "_law_number", "_law_fits", "_law_term_here", "_law_wide"] vs) H := by
  obtain ⟨d, a, l, v, ns, k, ws, wd, ps, rfl, ⟨hd, hk, ndl⟩, hl, okl, tv, okw, hps, q⟩ := h
  unfold rd_L_leaf
  walk_at "zz"
  refine ⟨d, a, ns, k, rfl, hd, hk, fun i H1 i0 i1 hd1 b1 => ?_⟩
  obtain ⟨xs, hx, tx⟩ := wl_bu hl hd ndl b1
  have tv1 := tv.mono (hd.tk b1)
  walk_at "zz"
  have lx := tx.len
  rw [List.length_map] at lx
  refine z_CLg (sq_of hx) (fun D j H' => Ex H1 H' ∧ ∃ (us : List V) (ts : List Trm), H' D = some (.lst us) ∧ TuAll H' us (ts.map Trm.d) ∧ (∀ t ∈ ts, ∃ p ∈ ws, p.1 = t) ∧ ts.length ≤ j) (fun D hD => ⟨Ex.new hD, [], [], upd_same, .nil, (fun t ht => by cases ht), Nat.le_refl _⟩) (fun D j H' hD p => sq_of (p.1 _ _ hx)) (fun D j x H' hD hj hxj p => ?_) (fun D H' hD p => ?_)
  · obtain ⟨e1, us, ts, hus, tts, mts, lts⟩ := p
    obtain ⟨dd, hdd, tdd⟩ := tx.get hxj
    rw [List.getElem?_map] at hdd
    obtain ⟨pw, hpw, rfl⟩ := Option.map_eq_some_iff.mp hdd
    obtain ⟨a2, u, v2, rfl, ha2, tu, tv2⟩ := tu2 tdd
    have hm := List.mem_of_getElem? hpw
    refine z_g2 (st_of (e1 _ _ ha2)) ⟨rfl, ?_⟩
    walk_at "zz"
    refine z_eqD (b := decide (pw.2 = wd)) (tv2.ex e1).dp (tv1.ex e1).dp (wd_cl (wOk.t (okl.1 pw hm).2.2 hps)) (wd_cl (wOk.t okw hps)) (show 1 ≤ 64 by decide) (show 1 ≤ 64 by decide) ⟨fun z => by rw [of_decide_eq_true z], fun z => decide_eq_true (wd_inj.mp z)⟩ ?_
    walk_at "zz"
    refine ite_b (fun _ => ?_) (fun _ => ?_)
    · walk_at "zz"
      have lu := tts.len
      rw [List.length_map] at lu
      have lw := okl.2
      refine ⟨us, hus, szlt (by omega), e1.mut hD, us ++ [u], ts ++ [pw.1], upd_same, ?_, fun t ht => ?_, by simp; omega⟩
      · rw [List.map_append]
        have k1 : Tk H' (upd H' D (.lst (us ++ [u]))) := .putL hus
        exact (tts.mono k1).app (.cons ((tu.ex e1).mono k1) .nil)
      · rcases List.mem_append.mp ht with ht | ht
        · exact mts t ht
        · rw [List.mem_singleton.mp ht]
          exact ⟨pw, hm, rfl⟩
    · exact ⟨e1, us, ts, hus, tts, mts, by omega⟩
  obtain ⟨e1, us, ts, hus, tts, mts, lts⟩ := p
  have b2 := b1.trans (But.ex e1)
  have hd2 := hd1.ex e1
  have tv2 := tv1.ex e1
  walk_at "zz"
  refine ⟨szl (by simp), fun c hc => ?_⟩
  refine z_neTu (l := ts) (f := Trm.d) (sq_of hus) tts (fun t ht => ?_) hc ?_
  · obtain ⟨p, hp, rfl⟩ := mts t ht
    obtain ⟨c1, c2⟩ := trm_cl hps p.1 (okl.1 p hp).1
    have := (okl.1 p hp).2.1
    exact ⟨c1, by omega⟩
  have e2 := Ex.new (o := .lst []) hc
  have hus2 := e2 _ _ hus
  have tts2 := tts.ex e2
  have b3 := b2.trans (But.ex e2)
  have hd3 := hd2.ex e2
  have tv3 := tv2.ex e2
  generalize upd H' c (.lst []) = H2 at e2 hus2 tts2 b3 hd3 tv3 ⊢
  walk_at "zz"
  have last : tRet (tTup (tCons (tC (.str "number")) (tCons (tCall (sp_L_first K) [] E0 (tCons (tOp rDivI (tVar 3) (tC (.int 5))) (tCons (tVar 2) tNil))) (tCons (tVar 2) tNil)))) { nx := fun _ H' => Q .non H', rt := Q } [some (.ref d), some (.ref l), some v, some (.int i), some (.ref D), none, none] H2 := by
    walk_at "zz"
    refine ⟨i / 5, v, wd, rfl, by omega, tv3, fun z => ?_, fun x x0 x1 => fun H3 e3 => ?_⟩
    · rcases okw with h | ⟨h, _⟩
      · exact h.2
      · exact absurd z (hps _ h).ne
    walk_at "zz"
    refine ⟨szl (by simp), fun t ht => ?_⟩
    have e4 := Ex.new (o := .tup [.str (Str.ofString "number"), .int x, v]) ht
    exact q _ _ (.num x wd) (hd3.ex (e3.trans e4)) (b3.trans (But.ex (e3.trans e4))) (Tu.mk ht (.cons (.str _) (.cons (.int _) (.cons (tv3.ex e3) .nil)))) ⟨x0, x1, okw⟩ (Nat.le_refl _) (fun y hy => by cases hy)
  cases ts with
  | nil =>
    refine ite_f ?_
    refine ite_f (z_next ?_)
    exact last
  | cons t0 tr =>
    refine ite_b (fun _ => ?_) (fun h => by simp at h)
    walk_at "zz"
    refine ite_b (fun _ => ?_) (fun _ => ?_)
    · walk_at "zz"
      have lu := tts.len
      rw [List.length_map, List.length_cons] at lu
      refine z_lenL (sq_of hus2) ?_
      walk_at "zz"
      obtain ⟨x, dd, hx', hdm, tdd, _⟩ := at_tu tts2 (i := i / 5 % (us.length : Nat)) (Int.emod_nonneg _ (by rw [lu]; omega)) (by
        have := Int.emod_lt_of_pos (i / 5) (show (0 : Int) < ((us.length : Nat) : Int) by rw [lu]; omega)
        rw [List.length_map, List.length_cons, ← lu]
        exact this)
      refine z_ixL (sq_of hus2) hx' ?_
      walk_at "zz"
      obtain ⟨t, ht, rfl⟩ := List.mem_map.mp hdm
      obtain ⟨p, hp, rfl⟩ := mts t ht
      exact q _ _ p.1 hd3 b3 tdd (okl.1 p hp).1 (okl.1 p hp).2.1 (fun y hy => wl_mem hp hy)
    · refine z_next ?_
      exact last
theorem sl_ex {H H' : Hp} {l : Addr} {ss : Sl} (e : Ex H H') (h : SlAt H l ss) : SlAt H' l ss := by
  obtain ⟨xs, hx, t⟩ := h
  exact ⟨xs, e _ _ hx, t.ex e⟩
section
variable {H H' : Hp} {d a hs h0 h1 : Addr} {ns : List Int} {k k' : Nat} {ws : Wl} {ss : Sl} {ps : List Str}
theorem En.ex (e : Ex H H') (h : En K H d a hs h0 h1 ns k ws ss ps) : En K H' d a hs h0 h1 ns k ws ss ps :=
  ⟨h.dr.ex e, e _ _ h.has, wl_ex e h.wl, sl_ex e h.sl, h.n0, h.n1, h.n2, h.s0, h.s1, h.okl, h.oks, h.hps⟩
theorem En.bu (b : But [d] H H') (hd : Dr K H' d a ns k') (h : En K H d a hs h0 h1 ns k ws ss ps) : En K H' d a hs h0 h1 ns k' ws ss ps := by
  have tk := h.dr.tk b
  refine ⟨hd, tk _ _ h.has, wl_bu h.wl h.dr h.n0 b, ?_, h.n0, h.n1, h.n2, h.s0, h.s1, h.okl, h.oks, h.hps⟩
  obtain ⟨xs, hx, t⟩ := h.sl
  exact ⟨xs, b _ _ (by simp [h.n1.symm]) hx, t.mono tk⟩
end
theorem sl_cl {ps : List Str} (hp : ∀ z ∈ ps, nmS z) {ss : Sl} (h : slOk ps ss) : ∀ p ∈ ss, cl (slD p) = true ∧ (slD p).depth ≤ 40 := fun p hm => by
  obtain ⟨h1, h3⟩ := h.1 p hm
  refine ⟨?_, (by decide : 2 ≤ 40)⟩
  show (cl (.str p.1) && (cl (wdD p.2) && true)) = true
  rw [cl_str (nmS.ok h1), wd_cl (wOk.t h3.ok hp)] <;> rfl
theorem wd0 (n : Int) (h : 1 ≤ n ∧ n ≤ 64) (ps : List Str) : wOk ps (Str.ofString "", n) := .inl ⟨rfl, h⟩
/-- has[0][i][1]: the width of some word -/
theorem z_wide {H : Hp} {Q : VK} {h0 : Addr} {ws : Wl} {ps : List Str} {i : Int} (hw : WlAt H h0 ws) (ok : wlOk ps ws) (i0 : 0 ≤ i) (i1 : i < ws.length) (q : ∀ (u : V) (w : Wd), Tu H u (wdD w) → wOk ps w → Q u H) : ∃ b xs x, WlAt H h0 ws ∧ H h0 = some (.lst xs) ∧ xs.length = ws.length ∧ atI xs i = some (.ref b) ∧ H b = some (.tup x) ∧ ∃ u, atI x 1 = some u ∧ Q u H := by
  obtain ⟨xs, hx, t⟩ := id hw
  have l := t.len
  rw [List.length_map] at l
  obtain ⟨x, dd, hx', hdm, tdd, _⟩ := at_tu t i0 (by rw [List.length_map]; exact i1)
  obtain ⟨p, hp, rfl⟩ := List.mem_map.mp hdm
  obtain ⟨b, u, v, rfl, hb, _, tv⟩ := tu2 tdd
  exact ⟨b, xs, _, hw, hx, l, hx', hb, v, atI_nat (j := 1) rfl, q v p.2 tv (ok.1 p hp).2.2⟩
theorem no_L_term : ∀ vs H Q E, ¬ sp_L_term K 0 vs H Q E := fun vs H Q E h => by
  obtain ⟨_, _, _, _, _, _, _, _, _, _, _, _, _, _, h, _⟩ := h
  omega
theorem isE {α : Type} {l : List α} (h : (!l.isEmpty) = true) : 0 < l.length := by
  cases l with
  | nil => cases h
  | cons _ _ => simp
theorem tc_pos : ∀ n, 1 ≤ tc n
  | 0 => Nat.le_refl _
  | n + 1 => by
    show 1 ≤ 3 * tc n + 3
    omega
theorem vr_L_bent (n : Nat) (vs H Q E) (h : sp_L_bent K n vs H Q E) : (rd_L_bent K (sp_L_term K n)) { nx := fun _ H' => Q .non H', rt := Q } (start ["_law_draw", "_law_has", "_law_width_here", "_law_deep", "_law_more", "_law_wide", "_law_one"] vs) H := by
  obtain ⟨d, a, hs, h0, h1, v, ns, k, ws, ss, wd, ps, e, m, rfl, he, hm, E, hk, tv, okw, q⟩ := h
  unfold rd_L_bent
  walk_at "zz"
  refine ⟨szl (by simp), fun t0 ht0 => ?_⟩
  have e1 := Ex.new (o := .tup [.str (Str.ofString ""), .int (1 + m / 2 % 8)]) ht0
  have tw0 : Tu (upd H t0 (.tup [.str (Str.ofString ""), .int (1 + m / 2 % 8)])) (.ref t0) (wdD (Str.ofString "", 1 + m / 2 % 8)) := Tu.mk ht0 (.cons (.str _) (.cons (.int _) .nil))
  generalize upd H t0 (.tup [.str (Str.ofString ""), .int (1 + m / 2 % 8)]) = H1 at e1 tw0 ⊢
  have E1 := E.ex e1
  walk_at "zz"
  refine z_cut (fun σ' H' => ∃ (wv : V) (w2 : Wd), σ' = [some (.ref d), some (.ref hs), some v, some (.int (e : Int)), some (.int m), some wv, none] ∧ Ex H H' ∧ Tu H' wv (wdD w2) ∧ wOk ps w2) ?_ (fun σ' H' hmid => ?_)
  · have no : ∀ H', Ex H1 H' → ∃ (wv : V) (w2 : Wd), [some (.ref d), some (.ref hs), some v, some (.int (e : Int)), some (.int m), some (.ref t0), none] = [some (.ref d), some (.ref hs), some v, some (.int (e : Int)), some (.int m), some wv, none] ∧ Ex H H' ∧ Tu H' wv (wdD w2) ∧ wOk ps w2 := fun H' e2 => ⟨_, _, rfl, e1.trans e2, tw0.ex e2, wd0 _ (by omega) ps⟩
    walk_at "zz"
    refine ite_b (fun _ => ?_) (fun _ => ite_f (no _ (Ex.refl _)))
    walk_at "zz"
    refine z_ixT (st_of E1.has) (show atI _ ((0 : Nat) : Int) = some (.ref h0) from atI_nat rfl) ?_
    walk_at "zz"
    refine ⟨szl (by simp), fun c hc => ?_⟩
    obtain ⟨xs, hx, tx⟩ := id E1.wl
    refine z_neTu (sq_of hx) tx (wl_cl E1.hps E1.okl) hc ?_
    have e2 := Ex.new (o := .lst []) hc
    have E2 := E1.ex e2
    have hx2 := e2 _ _ hx
    generalize upd H1 c (.lst []) = H2 at e2 E2 hx2 ⊢
    walk_at "zz"
    refine ite_b (fun ne => ?_) (fun _ => no _ e2)
    have lp := isE ne
    have lx := tx.len
    rw [List.length_map] at lx
    walk_at "zz"
    refine z_ixT (st_of E2.has) (show atI _ ((0 : Nat) : Int) = some (.ref h0) from atI_nat rfl) ?_
    walk_at "zz"
    refine z_ixT (st_of E2.has) (show atI _ ((0 : Nat) : Int) = some (.ref h0) from atI_nat rfl) ?_
    walk_at "zz"
    refine z_lenL (sq_of hx2) ?_
    walk_at "zz"
    obtain ⟨b, xs', x, _, hx', _, hb, hb2, u, hu, w2, tw2, okw2⟩ := z_wide (Q := fun u _ => ∃ w2, Tu H2 u (wdD w2) ∧ wOk ps w2) (i := m / 2 % (xs.length : Nat)) E2.wl E2.okl (Int.emod_nonneg _ (by omega)) (by
      have := Int.emod_lt_of_pos (m / 2) (show (0 : Int) < ((xs.length : Nat) : Int) by omega)
      omega) (fun u w tw ok => ⟨w, tw, ok⟩)
    rw [hx2] at hx'
    cases hx'
    refine z_ixL (sq_of hx2) hb ?_
    walk_at "zz"
    refine z_ixT (st_of hb2) hu ?_
    walk_at "zz"
    exact ⟨u, w2, rfl, e1.trans e2, tw2, okw2⟩
  obtain ⟨wv, w2, rfl, e2, tw, okw2⟩ := hmid
  have E2 := E.ex e2
  have tv2 := tv.ex e2
  walk_at "zz"
  have pt := tc_pos n
  refine ⟨d, a, hs, h0, h1, wv, ns, k, ws, ss, w2, ps, e, rfl, he, E2, by omega, tw, okw2, fun u H3 t1 k1 hd3 hk3 b3 tu3 ok3 => ?_⟩
  have E3 := E2.bu b3 hd3
  have k3 := E2.dr.tk b3
  have tv3 := tv2.mono k3
  have tw3 := tw.mono k3
  have B3 : But [d] H H3 := (But.ex e2).trans b3
  walk_at "zz"
  refine ⟨szl (by simp), fun t4 ht4 => ?_⟩
  have e4 := Ex.new (o := .tup [.str (Str.ofString ""), .int 1]) ht4
  have tw4 : Tu (upd H3 t4 (.tup [.str (Str.ofString ""), .int 1])) (.ref t4) (wdD (Str.ofString "", 1)) := Tu.mk ht4 (.cons (.str _) (.cons (.int _) .nil))
  generalize upd H3 t4 (.tup [.str (Str.ofString ""), .int 1]) = H4 at e4 tw4 ⊢
  have E4 := E3.ex e4
  have tv4 := tv3.ex e4
  have tu4 := tu3.ex e4
  have twv4 := tw3.ex e4
  have B4 := B3.trans (But.ex e4)
  refine z_eqD (b := decide (wd = (Str.ofString "", 1))) tv4.dp tw4.dp (wd_cl (wOk.t okw E.hps)) (wd_cl ((okT.of "" (n := 0) (by decide)).mono (by decide))) (show 1 ≤ 64 by decide) (show 1 ≤ 64 by decide) ⟨fun z => by rw [of_decide_eq_true z], fun z => decide_eq_true (wd_inj.mp z)⟩ ?_
  clear E3 tv3 tw3 tu3 tw4
  -- what a second term gives
  have more : ∀ (H5 : Hp) (wv' : V) (w' : Wd) (Q' : VK), En K H5 d a hs h0 h1 ns k1 ws ss ps → But [d] H H5 → Tu H5 u t1.d → Tu H5 wv' (wdD w') → wOk ps w' → (∀ (u2 : V) (H6 : Hp) (t2 : Trm) (k2 : Nat), Dr K H6 d a ns k2 → k2 ≤ k + (2 * tc n + 1) → But [d] H H6 → Tk H5 H6 → Tu H6 u t1.d → Tu H6 u2 t2.d → TmOk ps ws e t2 → Q' u2 H6) → sp_L_term K n [.ref d, .ref hs, wv', .int (e : Int)] H5 Q' E0 := fun H5 wv' w' Q' E5 B5 tu5 tw5 ok5 q5 => by
    refine ⟨d, a, hs, h0, h1, wv', ns, k1, ws, ss, w', ps, e, rfl, he, E5, by omega, tw5, ok5, fun u2 H6 t2 k2 hd6 hk6 b6 tu6 ok6 => ?_⟩
    have kk := E5.dr.tk b6
    exact q5 u2 H6 t2 k2 hd6 (by omega) (B5.trans b6) kk (tu5.mono kk) tu6 ok6
  obtain ⟨ok3a, ok3b, ok3c⟩ := ok3
  walk_at "zz"
  refine ite_b (fun hz => ?_) (fun hz => ?_)
  · walk_at "zz"
    refine ite_b (fun _ => ?_) (fun _ => ?_)
    · walk_at "zz"
      refine ⟨szl (by simp), fun p5 hp5 => ?_⟩
      have e5 := Ex.new (o := .lst [V.str (Str.ofString "=="), V.str (Str.ofString "<")]) hp5
      walk_at "zz"
      obtain ⟨sgn, hs5, ms5⟩ := at_strs (l := [Str.ofString "==", Str.ofString "<"]) (i := m / 128 % 2) (by omega) (by show m / 128 % 2 < 2; omega)
      refine z_ixL (sq_of upd_same) hs5 ?_
      have oks5 : okT sgn 2 := by
        simp only [List.mem_cons, List.not_mem_nil, or_false] at ms5
        rcases ms5 with rfl | rfl
        · exact okT.of _ (by decide)
        · exact okT.of _ (by decide)
      walk_at "zz"
      refine more _ wv w2 _ (E4.ex e5) (B4.trans (But.ex e5)) (tu4.ex e5) (twv4.ex e5) okw2 fun u2 H6 t2 k2 hd6 hk6 b6 kk tu6 tu26 ok6 => ?_
      walk_at "zz"
      refine ⟨szl (by simp), fun t7 ht7 => ?_⟩
      refine q _ _ (.two sgn t1 t2) k2 (hd6.ex (Ex.new ht7)) hk6 (b6.trans (But.ex (Ex.new ht7))) (Tu.mk ht7 (.cons (.str _) (.cons (.str _) (.cons tu6 (.cons tu26 .nil))))) ⟨⟨oks5, ok3a, ok6.1⟩, ?_, fun x hx => ?_⟩
      · have := ok6.2.1
        show max t1.deep t2.deep + 1 ≤ e + 1
        omega
      · rcases List.mem_append.mp hx with hx | hx
        · exact ok3c x hx
        · exact ok6.2.2 x hx
    · walk_at "zz"
      have cut : ∀ (low : Int), 0 ≤ low → low ≤ 200 → ∀ p, H4 p = none → Q (.ref p) (upd H4 p (.tup [.str (Str.ofString "cut"), u, .int low, v])) := fun low l0 l1 p hp => by
        refine q _ _ (.cut t1 low wd) k1 (E4.dr.ex (Ex.new hp)) (by omega) (B4.trans (But.ex (Ex.new hp))) (Tu.mk hp (.cons (.str _) (.cons tu4 (.cons (.int _) (.cons tv4 .nil))))) ⟨⟨ok3a, l0, l1, okw⟩, ?_, ok3c⟩
        show t1.deep + 1 ≤ e + 1
        omega
      obtain ⟨b2, x2, y2, rfl, hb2, tx2, ty2⟩ := tu2 twv4
      cases tu_str tx2
      cases tu_int ty2
      refine z_ixT (st_of hb2) (show atI _ ((0 : Nat) : Int) = _ from atI_nat rfl) ?_
      walk_at "zz"
      refine ite_b (fun _ => ?_) (fun hw0 => ?_)
      · walk_at "zz"
        exact ⟨szl (by simp), fun p hp => cut 0 (by decide) (by decide) p hp⟩
      · have hw0 : w2.1 = Str.ofString "" := by
          have := of_decide_eq_true (show decide (V.str w2.1 = V.str (Str.ofString "")) = true by simpa using hw0)
          injection this
        have hw2 : 1 ≤ w2.2 ∧ w2.2 ≤ 64 := by
          rcases okw2 with h | h
          · exact h.2
          · exact absurd hw0 (E.hps _ h.1).ne
        walk_at "zz"
        refine z_ixT (st_of hb2) (show atI _ ((1 : Nat) : Int) = _ from atI_nat rfl) ?_
        walk_at "zz"
        have l0 := Int.emod_nonneg (m / 128) (show w2.2 ≠ 0 by omega)
        have l1 := Int.emod_lt_of_pos (m / 128) (show 0 < w2.2 by omega)
        exact ⟨szl (by simp), fun p hp => cut _ l0 (by omega) p hp⟩
  · walk_at "zz"
    obtain ⟨bv, xv, yv, rfl, hbv, txv, tyv⟩ := tu2 (id tv4)
    cases tu_str txv
    cases tu_int tyv
    refine z_ixT (st_of hbv) (show atI _ ((0 : Nat) : Int) = _ from atI_nat rfl) ?_
    walk_at "zz"
    refine ite_b (fun _ => ?_) (fun hv0 => ?_)
    · walk_at "zz"
      refine z_ixT (st_of E4.has) (show atI _ ((0 : Nat) : Int) = some (.ref h0) from atI_nat rfl) ?_
      walk_at "zz"
      refine ⟨szl (by simp), fun t5 ht5 => ?_⟩
      have e5 := Ex.new (o := .tup [.str (Str.ofString ""), .int 1]) ht5
      have E5 := E4.ex e5
      walk_at "zz"
      refine ⟨d, a, h0, .ref t5, ns, k1, ws, (Str.ofString "", 1), ps, rfl, ⟨E5.dr, by omega, E5.n0⟩, E5.wl, E5.okl, Tu.mk ht5 (.cons (.str _) (.cons (.int _) .nil)), wd0 1 (by decide) ps, E5.hps, fun u6 H6 t6 hd6 b6 tu6 ok6 dp6 nm6 => ?_⟩
      have kk := E5.dr.tk b6
      walk_at "zz"
      refine ⟨szl (by simp), fun t7 ht7 => ?_⟩
      refine q _ _ (.fill t6 wd) (k1 + 1) (hd6.ex (Ex.new ht7)) (by omega) ((B4.trans ((But.ex e5).trans b6)).trans (But.ex (Ex.new ht7))) (Tu.mk ht7 (.cons (.str _) (.cons tu6 (.cons ((tv4.ex e5).mono kk) .nil)))) ⟨⟨ok6, okw⟩, ?_, nm6⟩
      show t6.deep + 1 ≤ e + 1
      omega
    have hv0 : wd.1 = Str.ofString "" := by
      have := of_decide_eq_true (show decide (V.str wd.1 = V.str (Str.ofString "")) = true by simpa using hv0)
      injection this
    have hwd : 1 ≤ wd.2 ∧ wd.2 ≤ 64 := by
      rcases okw with h | h
      · exact h.2
      · exact absurd hv0 (E.hps _ h.1).ne
    walk_at "zz"
    obtain ⟨b2, x2, y2, rfl, hb2, tx2, ty2⟩ := tu2 (id twv4)
    cases tu_str tx2
    cases tu_int ty2
    refine z_ixT (st_of hb2) (show atI _ ((0 : Nat) : Int) = _ from atI_nat rfl) ?_
    walk_at "zz"
    refine ite_b (fun _ => ?_) (fun hw0 => ?_)
    · walk_at "zz"
      refine z_ixT (st_of E4.has) (show atI _ ((0 : Nat) : Int) = some (.ref h0) from atI_nat rfl) ?_
      walk_at "zz"
      refine ⟨d, a, h0, .ref bv, ns, k1, ws, wd, ps, rfl, ⟨E4.dr, by omega, E4.n0⟩, E4.wl, E4.okl, tv4, okw, E4.hps, fun u6 H6 t6 hd6 b6 tu6 ok6 dp6 nm6 => ?_⟩
      have kk := E4.dr.tk b6
      have E6 := E4.bu b6 hd6
      walk_at "zz"
      refine ⟨d, a, hs, h0, h1, .ref bv, ns, k1 + 1, ws, ss, wd, ps, e, rfl, he, E6, by omega, tv4.mono kk, okw, fun u7 H7 t7 k7 hd7 hk7 b7 tu7 ok7 => ?_⟩
      have kk7 := E6.dr.tk b7
      walk_at "zz"
      refine ⟨szl (by simp), fun t8 ht8 => ?_⟩
      refine q _ _ (.two (Str.ofString "^") t6 t7) k7 (hd7.ex (Ex.new ht8)) (by omega) (((B4.trans b6).trans b7).trans (But.ex (Ex.new ht8))) (Tu.mk ht8 (.cons (.str _) (.cons (.str _) (.cons (tu6.mono kk7) (.cons tu7 .nil))))) ⟨⟨okT.of _ (by decide), ok6, ok7.1⟩, ?_, fun x hx => ?_⟩
      · have := ok7.2.1
        show max t6.deep t7.deep + 1 ≤ e + 1
        omega
      · rcases List.mem_append.mp hx with hx | hx
        · exact nm6 x hx
        · exact ok7.2.2 x hx
    have hw0 : w2.1 = Str.ofString "" := by
      have := of_decide_eq_true (show decide (V.str w2.1 = V.str (Str.ofString "")) = true by simpa using hw0)
      injection this
    have hw2 : 1 ≤ w2.2 ∧ w2.2 ≤ 64 := by
      rcases okw2 with h | h
      · exact h.2
      · exact absurd hw0 (E.hps _ h.1).ne
    have wAt : ∀ {Q' : VK}, Q' (.int w2.2) H4 → rIxT K (.ref b2) (.int 1) H4 Q' := fun q' => z_ixT (st_of hb2) (show atI _ ((1 : Nat) : Int) = _ from atI_nat rfl) q'
    have vAt : ∀ {Q' : VK}, Q' (.int wd.2) H4 → rIxT K (.ref bv) (.int 1) H4 Q' := fun q' => z_ixT (st_of hbv) (show atI _ ((1 : Nat) : Int) = _ from atI_nat rfl) q'
    have rest : tSeq (tIfS (tTest (tOp rLeI (tOp (rIxT K) (tVar 5) (tC (.int 1))) (tOp (rIxT K) (tVar 2) (tC (.int 1))))) (tRet (tTup (tCons (tC (.str "fill")) (tCons (tVar 6) (tCons (tVar 2) tNil))))) tNext) (tRet (tTup (tCons (tC (.str "cut")) (tCons (tVar 6) (tCons (tOp rModI (tOp rDivI (tVar 4) (tC (.int 64))) (tOp rAddI (tOp rSubI (tOp (rIxT K) (tVar 5) (tC (.int 1))) (tOp (rIxT K) (tVar 2) (tC (.int 1)))) (tC (.int 1)))) (tCons (tVar 2) tNil)))))) { nx := fun _ H' => Q .non H', rt := Q } [some (.ref d), some (.ref hs), some (.ref bv), some (.int (e : Int)), some (.int m), some (.ref b2), some u] H4 := by
      walk_at "zz"
      refine wAt ?_
      walk_at "zz"
      refine vAt ?_
      walk_at "zz"
      refine ite_b (fun _ => ?_) (fun hle => ?_)
      · walk_at "zz"
        refine ⟨szl (by simp), fun t8 ht8 => ?_⟩
        refine q _ _ (.fill t1 wd) k1 (E4.dr.ex (Ex.new ht8)) (by omega) (B4.trans (But.ex (Ex.new ht8))) (Tu.mk ht8 (.cons (.str _) (.cons tu4 (.cons tv4 .nil)))) ⟨⟨ok3a, okw⟩, ?_, ok3c⟩
        show t1.deep + 1 ≤ e + 1
        omega
      · have hle := of_decide_eq_false hle
        walk_at "zz"
        refine wAt ?_
        walk_at "zz"
        refine vAt ?_
        walk_at "zz"
        have l0 := Int.emod_nonneg (m / 64) (show w2.2 - wd.2 + 1 ≠ 0 by omega)
        have l1 := Int.emod_lt_of_pos (m / 64) (show 0 < w2.2 - wd.2 + 1 by omega)
        refine ⟨szl (by simp), fun t8 ht8 => ?_⟩
        refine q _ _ (.cut t1 (m / 64 % (w2.2 - wd.2 + 1)) wd) k1 (E4.dr.ex (Ex.new ht8)) (by omega) (B4.trans (But.ex (Ex.new ht8))) (Tu.mk ht8 (.cons (.str _) (.cons tu4 (.cons (.int _) (.cons tv4 .nil))))) ⟨⟨ok3a, l0, by omega, okw⟩, ?_, ok3c⟩
        show t1.deep + 1 ≤ e + 1
        omega
    walk_at "zz"
    refine wAt ?_
    walk_at "zz"
    refine vAt ?_
    walk_at "zz"
    refine ite_b (fun hlt => ?_) (fun _ => ite_f (z_next rest))
    have hlt := of_decide_eq_true hlt
    walk_at "zz"
    refine ite_b (fun _ => ?_) (fun _ => z_next rest)
    walk_at "zz"
    refine vAt ?_
    walk_at "zz"
    refine wAt ?_
    walk_at "zz"
    refine ⟨szl (by simp), fun t5 ht5 => ?_⟩
    have e5 := Ex.new (o := .tup [.str (Str.ofString ""), .int (wd.2 - w2.2)]) ht5
    walk_at "zz"
    refine more _ (.ref t5) (Str.ofString "", wd.2 - w2.2) _ (E4.ex e5) (B4.trans (But.ex e5)) (tu4.ex e5) (Tu.mk ht5 (.cons (.str _) (.cons (.int _) .nil))) (wd0 _ (by omega) ps) fun u2 H6 t2 k2 hd6 hk6 b6 kk tu6 tu26 ok6 => ?_
    walk_at "zz"
    refine ⟨szl (by simp), fun t7 ht7 => ?_⟩
    refine q _ _ (.join t1 t2) k2 (hd6.ex (Ex.new ht7)) hk6 (b6.trans (But.ex (Ex.new ht7))) (Tu.mk ht7 (.cons (.str _) (.cons tu6 (.cons tu26 .nil)))) ⟨⟨ok3a, ok6.1⟩, ?_, fun x hx => ?_⟩
    · have := ok6.2.1
      show max t1.deep t2.deep + 1 ≤ e + 1
      omega
    · rcases List.mem_append.mp hx with hx | hx
      · exact ok3c x hx
      · exact ok6.2.2 x hx
theorem five_at (i : Int) : atI (Str.ofString "&|^+-" : Str).cps.toList (i % 5) = some (sg (Str.ofString "&|^+-") i) ∧ sg (Str.ofString "&|^+-") i ∈ (Str.ofString "&|^+-" : Str).cps.toList := by
  have l5 : (Str.ofString "&|^+-" : Str).length = 5 := by decide +kernel
  have := sg_at (z := Str.ofString "&|^+-") (by rw [l5]; decide) i
  rw [l5] at this
  exact this
theorem five_ok (i : Int) : okT ⟨#[sg (Str.ofString "&|^+-") i]⟩ 2 := (okT.one (okT.of "&|^+-" (n := 5) (by decide +kernel)) (five_at i).2).mono (by decide)
theorem vr_L_term (n : Nat) (vs H Q E) (h : sp_L_term K (n + 1) vs H Q E) : (rd_L_term K (sp_L_term K n) (sp_L_bent K n)) { nx := fun _ H' => Q .non H', rt := Q } (start ["_law_draw", "_law_has", "_law_width_here", "_law_deep", "_law_number", "_law_way", "_law_more", "_law_one", "_law_test", "_law_fits", "_law_wide", "_law_name"] vs) H := by
  obtain ⟨d, a, hs, h0, h1, v, ns, k, ws, ss, wd, ps, e, rfl, he, E, hk, tv, okw, q⟩ := h
  have tq : tc (n + 1) = 3 * tc n + 3 := rfl
  rw [tq] at hk q
  have pt := tc_pos n
  unfold rd_L_term
  walk_at "zz"
  refine ite_b (fun _ => ?_) (fun he2 => ?_)
  · walk_at "zz"
    refine z_ixT (st_of E.has) (show atI _ ((0 : Nat) : Int) = some (.ref h0) from atI_nat rfl) ?_
    walk_at "zz"
    exact ⟨d, a, h0, v, ns, k, ws, wd, ps, rfl, ⟨E.dr, by omega, E.n0⟩, E.wl, E.okl, tv, okw, E.hps, fun u H' t hd b tu ok dp nm => q u H' t (k + 1) hd (by omega) b tu ⟨ok, by omega, nm⟩⟩
  have he2 := of_decide_eq_false he2
  obtain ⟨f, rfl⟩ : ∃ f, e = f + 1 := ⟨e - 1, by omega⟩
  have ef : ((f + 1 : Nat) : Int) - 1 = (f : Int) := by omega
  have sub : ∀ (H5 : Hp) (k5 : Nat) (v5 : V) (w5 : Wd) (Q' : VK), En K H5 d a hs h0 h1 ns k5 ws ss ps → k5 + tc n ≤ 90000 → Tu H5 v5 (wdD w5) → wOk ps w5 → (∀ (u : V) (H6 : Hp) (t : Trm) (k6 : Nat), Dr K H6 d a ns k6 → k6 ≤ k5 + tc n → But [d] H5 H6 → Tk H5 H6 → En K H6 d a hs h0 h1 ns k6 ws ss ps → Tu H6 u t.d → TmOk ps ws f t → Q' u H6) → sp_L_term K n [.ref d, .ref hs, v5, .int (((f + 1 : Nat) : Int) - 1)] H5 Q' E0 := fun H5 k5 v5 w5 Q' E5 hk5 tv5 ok5 q5 => by
    refine ⟨d, a, hs, h0, h1, v5, ns, k5, ws, ss, w5, ps, f, by rw [ef], by omega, E5, hk5, tv5, ok5, fun u H6 t k6 hd6 hk6 b6 tu6 ok6 => ?_⟩
    exact q5 u H6 t k6 hd6 hk6 b6 (E5.dr.tk b6) (E5.bu b6 hd6) tu6 ok6
  walk_at "zz"
  refine ⟨d, a, ns, k, rfl, E.dr, by omega, fun i H1 i0 i1 hd1 b1 => ?_⟩
  have E1 := E.bu b1 hd1
  have tv1 := tv.mono (E.dr.tk b1)
  walk_at "zz"
  refine ⟨_, _, rfl, ?_⟩
  walk_at "zz"
  refine ite_b (fun _ => ?_) (fun _ => ?_)
  · walk_at "zz"
    refine z_ixT (st_of E1.has) (show atI _ ((0 : Nat) : Int) = some (.ref h0) from atI_nat rfl) ?_
    walk_at "zz"
    exact ⟨d, a, h0, v, ns, k + 1, ws, wd, ps, rfl, ⟨E1.dr, by omega, E1.n0⟩, E1.wl, E1.okl, tv1, okw, E1.hps, fun u H' t hd b tu ok dp nm => q u H' t (k + 1 + 1) hd (by omega) (b1.trans b) tu ⟨ok, by omega, nm⟩⟩
  walk_at "zz"
  refine ite_b (fun _ => ?_) (fun _ => ?_)
  · walk_at "zz"
    refine sub H1 (k + 1) v wd _ E1 (by omega) tv1 okw fun u H2 t k2 hd2 hk2 b2 kk E2 tu ok => ?_
    walk_at "zz"
    refine ⟨szl (by simp), fun p hp => ?_⟩
    refine q _ _ (.not_ t) k2 (hd2.ex (Ex.new hp)) (by omega) ((b1.trans b2).trans (But.ex (Ex.new hp))) (Tu.mk hp (.cons (.str _) (.cons tu .nil))) ⟨ok.1, ?_, ok.2.2⟩
    have := ok.2.1
    show t.deep + 1 ≤ f + 1
    omega
  walk_at "zz"
  refine ite_b (fun _ => ?_) (fun _ => ?_)
  · walk_at "zz"
    refine sub H1 (k + 1) v wd _ E1 (by omega) tv1 okw fun u H2 t k2 hd2 hk2 b2 kk E2 tu ok => ?_
    walk_at "zz"
    refine z_ixS (szl (by decide +kernel)) (five_at _).1 ?_
    walk_at "zz"
    refine sub H2 k2 v wd _ E2 (by omega) (tv1.mono kk) okw fun u3 H3 t3 k3 hd3 hk3 b3 kk3 E3 tu3 ok3 => ?_
    walk_at "zz"
    refine ⟨szl (by simp), fun p hp => ?_⟩
    refine q _ _ (.two _ t t3) k3 (hd3.ex (Ex.new hp)) (by omega) (((b1.trans b2).trans b3).trans (But.ex (Ex.new hp))) (Tu.mk hp (.cons (.str _) (.cons (.str _) (.cons (tu.mono kk3) (.cons tu3 .nil))))) ⟨⟨five_ok _, ok.1, ok3.1⟩, ?_, fun x hx => ?_⟩
    · have := ok.2.1
      have := ok3.2.1
      show max t.deep t3.deep + 1 ≤ f + 1
      omega
    · rcases List.mem_append.mp hx with hx | hx
      · exact ok.2.2 x hx
      · exact ok3.2.2 x hx
  walk_at "zz"
  refine ite_b (fun _ => ?_) (fun _ => ?_)
  · walk_at "zz"
    refine ⟨szl (by simp), fun t0 ht0 => ?_⟩
    have e0 := Ex.new (o := .tup [.str (Str.ofString ""), .int 1]) ht0
    walk_at "zz"
    refine sub _ (k + 1) (.ref t0) (Str.ofString "", 1) _ (E1.ex e0) (by omega) (Tu.mk ht0 (.cons (.str _) (.cons (.int _) .nil))) (wd0 1 (by decide) ps) fun u H2 t k2 hd2 hk2 b2 kk E2 tu ok => ?_
    have tv2 := (tv1.ex e0).mono kk
    walk_at "zz"
    refine sub H2 k2 v wd _ E2 (by omega) tv2 okw fun u3 H3 t3 k3 hd3 hk3 b3 kk3 E3 tu3 ok3 => ?_
    have tu' := tu.mono kk3
    walk_at "zz"
    refine sub H3 k3 v wd _ E3 (by omega) (tv2.mono kk3) okw fun u4 H4 t4 k4 hd4 hk4 b4 kk4 E4 tu4 ok4 => ?_
    walk_at "zz"
    refine ⟨szl (by simp), fun p hp => ?_⟩
    refine q _ _ (.pick t t3 t4) k4 (hd4.ex (Ex.new hp)) (by omega) (((((b1.trans (But.ex e0)).trans b2).trans b3).trans b4).trans (But.ex (Ex.new hp))) (Tu.mk hp (.cons (.str _) (.cons (tu'.mono kk4) (.cons (tu3.mono kk4) (.cons tu4 .nil))))) ⟨⟨ok.1, ok3.1, ok4.1⟩, ?_, fun x hx => ?_⟩
    · have := ok.2.1
      have := ok3.2.1
      have := ok4.2.1
      show max t.deep (max t3.deep t4.deep) + 1 ≤ f + 1
      omega
    · rcases List.mem_append.mp hx with hx | hx
      · rcases List.mem_append.mp hx with hx | hx
        · exact ok.2.2 x hx
        · exact ok3.2.2 x hx
      · exact ok4.2.2 x hx
  walk_at "zz"
  refine z_ixT (st_of E1.has) (show atI _ ((1 : Nat) : Int) = some (.ref h1) from atI_nat rfl) ?_
  walk_at "zz"
  obtain ⟨xs, hx, tx⟩ := id E1.sl
  have lx := tx.len
  rw [List.length_map] at lx
  refine z_CLg (sq_of hx) (fun D j H' => Ex H1 H' ∧ ∃ zs : List Str, H' D = some (.lst (zs.map V.str)) ∧ (∀ z ∈ zs, nmS z) ∧ zs.length ≤ j) (fun D hD => ⟨Ex.new hD, [], upd_same, (fun t ht => by cases ht), Nat.le_refl _⟩) (fun D j H' hD p => sq_of (p.1 _ _ hx)) (fun D j x H' hD hj hxj p => ?_) (fun D H2 hD p => ?_)
  · obtain ⟨e1, zs, hzs, nzs, lzs⟩ := p
    obtain ⟨dd, hdd, tdd⟩ := tx.get hxj
    rw [List.getElem?_map] at hdd
    obtain ⟨pw, hpw, rfl⟩ := Option.map_eq_some_iff.mp hdd
    obtain ⟨a2, u, v2, rfl, ha2, tu, tv2⟩ := tu2 tdd
    cases tu_str tu
    have hm := List.mem_of_getElem? hpw
    refine z_g2 (st_of (e1 _ _ ha2)) ⟨rfl, ?_⟩
    walk_at "zz"
    refine z_eqD (b := decide (pw.2 = wd)) (tv2.ex e1).dp (tv1.ex e1).dp (wd_cl (wOk.t (E1.oks.1 pw hm).2.ok E.hps)) (wd_cl (wOk.t okw E.hps)) (show 1 ≤ 64 by decide) (show 1 ≤ 64 by decide) ⟨fun z => by rw [of_decide_eq_true z], fun z => decide_eq_true (wd_inj.mp z)⟩ ?_
    walk_at "zz"
    refine ite_b (fun _ => ?_) (fun _ => ?_)
    · walk_at "zz"
      have lw := E1.oks.2
      refine ⟨zs.map V.str, hzs, szlt (by rw [List.length_map]; omega), e1.mut hD, zs ++ [pw.1], by rw [List.map_append]; exact upd_same, fun t ht => ?_, by simp; omega⟩
      rcases List.mem_append.mp ht with ht | ht
      · exact nzs t ht
      · rw [List.mem_singleton.mp ht]
        exact (E1.oks.1 pw hm).1
    · exact ⟨e1, zs, hzs, nzs, by omega⟩
  obtain ⟨e2, zs, hzs, nzs, lzs⟩ := p
  have E2 := E1.ex e2
  have tv2 := tv1.ex e2
  have b2 := b1.trans (But.ex e2)
  clear E1 tv1
  -- what a bent term gives
  have bent : ∀ (H5 : Hp) (Q' : VK), Ex H2 H5 → (∀ u H', Q u H' → Q' u H') → sp_L_bent K n [.ref d, .ref hs, v, .int (((f + 1 : Nat) : Int) - 1), .int (i / 11)] H5 Q' E0 := fun H5 Q' e5 q5 => by
    refine ⟨d, a, hs, h0, h1, v, ns, k + 1, ws, ss, wd, ps, f, i / 11, by rw [ef], by omega, by omega, E2.ex e5, by omega, tv2.ex e5, okw, fun u H6 t k6 hd6 hk6 b6 tu6 ok6 => q5 _ _ (q u H6 t k6 hd6 (by omega) ((b2.trans (But.ex e5)).trans b6) tu6 ok6)⟩
  walk_at "zz"
  refine ite_b (fun _ => ?_) (fun _ => ite_f (z_next ?_))
  rotate_left
  · walk_at "zz"
    exact bent H2 _ (Ex.refl _) fun u H' h => h
  walk_at "zz"
  refine ⟨szl (by simp), fun c hc => ?_⟩
  refine z_neStr (sq_of hzs) nzs hc ?_
  have e3 := Ex.new (o := .lst []) hc
  have hzs3 := e3 _ _ hzs
  walk_at "zz"
  refine ite_b (fun ne => ?_) (fun _ => z_next ?_)
  rotate_left
  · walk_at "zz"
    exact bent _ _ e3 fun u H' h => h
  clear bent
  have lz := isE ne
  have E3 := E2.ex e3
  have tv3 := tv2.ex e3
  have b3 := b2.trans (But.ex e3)
  generalize upd H2 c (.lst []) = H3 at e3 hzs3 E3 tv3 b3 ⊢
  clear E2 tv2 b2 hzs
  walk_at "zz"
  refine ⟨szl (by simp), fun t0 ht0 => ?_⟩
  have e4 := Ex.new (o := .tup [.str (Str.ofString ""), .int (1 + i / 11 / 8 % 6)]) ht0
  have tw4 : Tu (upd H3 t0 (.tup [.str (Str.ofString ""), .int (1 + i / 11 / 8 % 6)])) (.ref t0) (wdD (Str.ofString "", 1 + i / 11 / 8 % 6)) := Tu.mk ht0 (.cons (.str _) (.cons (.int _) .nil))
  have hzs4 := e4 _ _ hzs3
  have E4 := E3.ex e4
  have b4 := b3.trans (But.ex e4)
  generalize upd H3 t0 (.tup [.str (Str.ofString ""), .int (1 + i / 11 / 8 % 6)]) = H4 at e4 tw4 hzs4 E4 b4 ⊢
  clear E3 tv3 b3 hzs3 e2
  walk_at "zz"
  refine z_cut (fun σ' H' => ∃ (wv : V) (w2 : Wd), σ' = [some (.ref d), some (.ref hs), some v, some (.int ((f + 1 : Nat) : Int)), some (.int i), some (.int (i % 11)), some (.int (i / 11)), none, none, some (.ref D), some wv, none] ∧ Ex H4 H' ∧ Tu H' wv (wdD w2) ∧ wOk ps w2) ?_ (fun σ' H' hmid => ?_)
  · have no : ∀ H', Ex H4 H' → ∃ (wv : V) (w2 : Wd), [some (.ref d), some (.ref hs), some v, some (.int ((f + 1 : Nat) : Int)), some (.int i), some (.int (i % 11)), some (.int (i / 11)), none, none, some (.ref D), some (.ref t0), none] = [some (.ref d), some (.ref hs), some v, some (.int ((f + 1 : Nat) : Int)), some (.int i), some (.int (i % 11)), some (.int (i / 11)), none, none, some (.ref D), some wv, none] ∧ Ex H4 H' ∧ Tu H' wv (wdD w2) ∧ wOk ps w2 := fun H' e2 => ⟨_, _, rfl, e2, tw4.ex e2, wd0 _ (by omega) ps⟩
    walk_at "zz"
    refine ite_b (fun _ => ?_) (fun _ => ite_f (no _ (Ex.refl _)))
    walk_at "zz"
    refine z_ixT (st_of E4.has) (show atI _ ((0 : Nat) : Int) = some (.ref h0) from atI_nat rfl) ?_
    walk_at "zz"
    refine ⟨szl (by simp), fun c2 hc2 => ?_⟩
    obtain ⟨xs0, hx0, tx0⟩ := id E4.wl
    refine z_neTu (sq_of hx0) tx0 (wl_cl E4.hps E4.okl) hc2 ?_
    have e5 := Ex.new (o := .lst []) hc2
    have E5 := E4.ex e5
    have hx5 := e5 _ _ hx0
    generalize upd H4 c2 (.lst []) = H5 at e5 E5 hx5 ⊢
    walk_at "zz"
    refine ite_b (fun ne => ?_) (fun _ => no _ e5)
    have lp := isE ne
    have lx0 := tx0.len
    rw [List.length_map] at lx0
    walk_at "zz"
    refine z_ixT (st_of E5.has) (show atI _ ((0 : Nat) : Int) = some (.ref h0) from atI_nat rfl) ?_
    walk_at "zz"
    refine z_ixT (st_of E5.has) (show atI _ ((0 : Nat) : Int) = some (.ref h0) from atI_nat rfl) ?_
    walk_at "zz"
    refine z_lenL (sq_of hx5) ?_
    walk_at "zz"
    obtain ⟨b, xs', x, _, hx', _, hb, hb2, u, hu, w2, tw2, okw2⟩ := z_wide (Q := fun u _ => ∃ w2, Tu H5 u (wdD w2) ∧ wOk ps w2) (i := i / 11 / 8 % (xs0.length : Nat)) E5.wl E5.okl (Int.emod_nonneg _ (by omega)) (by
      have := Int.emod_lt_of_pos (i / 11 / 8) (show (0 : Int) < ((xs0.length : Nat) : Int) by omega)
      omega) (fun u w tw ok => ⟨w, tw, ok⟩)
    rw [hx5] at hx'
    cases hx'
    refine z_ixL (sq_of hx5) hb ?_
    walk_at "zz"
    refine z_ixT (st_of hb2) hu ?_
    walk_at "zz"
    exact ⟨u, w2, rfl, e5, tw2, okw2⟩
  obtain ⟨wv, w2, rfl, e5, tw5, okw2⟩ := hmid
  have E5 := E4.ex e5
  have hzs5 := e5 _ _ hzs4
  have b5 := b4.trans (But.ex e5)
  clear E4 hzs4 b4 tw4
  walk_at "zz"
  refine z_lenL (sq_of hzs5) ?_
  walk_at "zz"
  refine z_i (show (0 : Int) < (((zs.map V.str).length : Nat) : Int) by rw [List.length_map]; omega) ?_
  obtain ⟨nm, hnm, mnm⟩ := at_strs (l := zs) (i := i / 11 % (((zs.map V.str).length : Nat) : Int)) (Int.emod_nonneg _ (by rw [List.length_map]; omega)) (by
    have := Int.emod_lt_of_pos (i / 11) (show (0 : Int) < (((zs.map V.str).length : Nat) : Int) by rw [List.length_map]; omega)
    rw [List.length_map] at this ⊢
    exact this)
  refine z_ixL (sq_of hzs5) hnm ?_
  walk_at "zz"
  refine sub _ (k + 1) wv w2 _ E5 (by omega) tw5 okw2 fun u H6 t k6 hd6 hk6 b6 kk E6 tu ok => ?_
  walk_at "zz"
  refine ⟨szl (by simp), fun p hp => ?_⟩
  refine q _ _ (.at_ nm t) k6 (hd6.ex (Ex.new hp)) (by omega) ((b5.trans b6).trans (But.ex (Ex.new hp))) (Tu.mk hp (.cons (.str _) (.cons (.str _) (.cons tu .nil)))) ⟨⟨nzs nm mnm, ok.1⟩, ?_, ok.2.2⟩
  have := ok.2.1
  show t.deep + 1 ≤ f + 1
  omega
theorem z_pop0 {H : Hp} {Q : VK} {l : Addr} {zs : List Str} {m : Nat} (h : H l = some (.lst ((zs.drop m).map V.str))) (hm : m < zs.length) (q : ∀ z, zs[m]? = some z → Q (.str z) (upd H l (.lst ((zs.drop (m + 1)).map V.str)))) : rPopAt (.ref l) [.int 0] H Q := by
  have e : zs.drop m = zs[m] :: zs.drop (m + 1) := List.drop_eq_getElem_cons hm
  have hh := h
  rw [e, List.map_cons] at hh
  refine ⟨l, _, 0, 0, .str zs[m], rfl, rfl, hh, by decide, by decide, ?_, rfl, q _ (List.getElem?_eq_getElem hm)⟩
  simp [seqIndex?]
theorem PsL.at_ {H : Hp} {p : Addr} {ps : List Str} (h : PsL H p ps) : PsAt K H p ps := ⟨sq_of h.1, h.2⟩
theorem PsL.bu {H H' : Hp} {p : Addr} {ps : List Str} {B : List Addr} (h : PsL H p ps) (hp : p ∉ B) (b : But B H H') : PsL H' p ps := ⟨b _ _ hp h.1, h.2⟩
theorem sep_new {H : Hp} {a b : Addr} {xs : List V} (h : SqL K H a xs) (hb : H b = none) : Sep K a b xs := by
  rcases h with h | h
  · refine .inl fun z => ?_
    subst z
    rcases h with h | ⟨o, h⟩ <;> rw [hb] at h <;> cases h
  · exact .inr fun H' => .inr h
theorem sep_bu {H H' : Hp} {a : Addr} {xs : List V} {B : List Addr} (h : SqL K H a xs) (s : ∀ b ∈ B, Sep K a b xs) (bu : But B H H') : SqL K H' a xs := by
  by_cases hm : a ∈ B
  · rcases s a hm with h' | h'
    · exact absurd rfl h'
    · exact h' H'
  · rcases h with h | h
    · left
      rcases h with h | ⟨o, h⟩
      · exact .inl (bu _ _ hm h)
      · exact .inr ⟨o, bu _ _ hm h⟩
    · exact .inr h
theorem Dr.bu {H H' : Hp} {d a : Addr} {ns : List Int} {k : Nat} {B : List Addr} (h : Dr K H d a ns k) (hd : d ∉ B) (s : ∀ b ∈ B, Sep K a b (ns.map V.int)) (bu : But B H H') : Dr K H' d a ns k := ⟨bu _ _ hd h.1, sep_bu h.2 s bu⟩
structure HI (K : PySem.W.Frag) (H0 H : Hp) (d a nl p r : Addr) (ns : List Int) (c : Nat) (zs ps : List Str) (m : Nat) (hd : List Hd) : Prop where
  row : ∃ us, H r = some (.lst us) ∧ TuAll H us (hd.map Hd.d)
  ok : ∀ h ∈ hd, h.ok ps
  nm : H nl = some (.lst ((zs.drop m).map V.str))
  xs : hd.map Hd.x = zs.take hd.length
  dr : Dr K H d a ns c
  bu : But [d, nl] H0 H
  pp : PsL H p ps
  n1 : r ≠ d ∧ r ≠ nl ∧ d ≠ nl ∧ p ≠ d ∧ p ≠ nl ∧ p ≠ r
  r0 : H0 r = none
  sp : Sep K a nl (ns.map V.int) ∧ Sep K a r (ns.map V.int)
section
variable {H0 H H' : Hp} {d a nl p r : Addr} {ns : List Int} {c c' : Nat} {zs ps : List Str} {m : Nat} {hd : List Hd}
theorem HI.dw (h : HI K H0 H d a nl p r ns c zs ps m hd) (x : Dr K H' d a ns c') (b : But [d] H H') : HI K H0 H' d a nl p r ns c' zs ps m hd := by
  obtain ⟨us, h1, h2⟩ := h.row
  exact ⟨⟨us, b _ _ (by simp [h.n1.1]) h1, h2.mono (h.dr.tk b)⟩, h.ok, b _ _ (by simp [h.n1.2.2.1.symm]) h.nm, h.xs, x, h.bu.trans (b.mono (by simp)), h.pp.bu (by simp [h.n1.2.2.2.1]) b, h.n1, h.r0, h.sp⟩
theorem HI.ex (h : HI K H0 H d a nl p r ns c zs ps m hd) (e : Ex H H') : HI K H0 H' d a nl p r ns c zs ps m hd := h.dw (h.dr.ex e) (But.ex e)
theorem HI.pop (h : HI K H0 H d a nl p r ns c zs ps m hd) : HI K H0 (upd H nl (.lst ((zs.drop (m + 1)).map V.str))) d a nl p r ns c zs ps (m + 1) hd := by
  obtain ⟨us, h1, h2⟩ := h.row
  have tk : Tk H (upd H nl (.lst ((zs.drop (m + 1)).map V.str))) := .putL h.nm
  obtain ⟨n1, n2, n3, n4, n5, n6⟩ := h.n1
  have b : But [nl] H (upd H nl (.lst ((zs.drop (m + 1)).map V.str))) := But.put (by simp)
  exact ⟨⟨us, b _ _ (by simp [n2]) h1, h2.mono tk⟩, h.ok, upd_same, h.xs, h.dr.bu (by simp [n3]) (fun b hb => by rw [List.mem_singleton.mp hb]; exact h.sp.1) b, h.bu.trans (b.mono (by simp)), h.pp.bu (by simp [n5]) b, h.n1, h.r0, h.sp⟩
theorem HI.app {v : V} {x : Hd} {us : List V} (h : HI K H0 H d a nl p r ns c zs ps m hd) (hr : H r = some (.lst us)) (hv : Tu H v x.d) (ok : x.ok ps) (hx : zs[hd.length]? = some x.x) : HI K H0 (upd H r (.lst (us ++ [v]))) d a nl p r ns c zs ps m (hd ++ [x]) := by
  obtain ⟨us', h1, h2⟩ := h.row
  rw [hr] at h1
  cases h1
  obtain ⟨n1, n2, n3, n4, n5, n6⟩ := h.n1
  have tk : Tk H (upd H r (.lst (us ++ [v]))) := .putL hr
  have b : But [r] H (upd H r (.lst (us ++ [v]))) := But.put (by simp)
  refine ⟨⟨_, upd_same, ?_⟩, fun y hy => ?_, b _ _ (by simp [n2.symm]) h.nm, ?_, h.dr.bu (by simp [n1.symm]) (fun b hb => by rw [List.mem_singleton.mp hb]; exact h.sp.2) b, h.bu.mut h.r0, h.pp.bu (by simp [n6]) b, h.n1, h.r0, h.sp⟩
  · rw [List.map_append]
    exact (h2.mono tk).app (.cons (hv.mono tk) .nil)
  · rcases List.mem_append.mp hy with hy | hy
    · exact h.ok y hy
    · rw [List.mem_singleton.mp hy]
      exact ok
  · rw [List.map_append, h.xs, List.length_append, List.length_singleton, List.take_add_one, hx] <;> rfl
end
theorem tu_hd {H : Hp} {v : V} {h : Hd} (t : Tu H v h.d) : ∃ b wv rest, v = .ref b ∧ H b = some (.tup (.str h.k :: .str h.x :: wv :: rest)) ∧ Tu H wv (wdD h.w) ∧ TuAll H rest h.more := by
  obtain ⟨a, vs, rfl, ha, t⟩ := tu_tup t
  cases t with
  | cons t1 r => cases r with
    | cons t2 r => cases r with
      | cons t3 r =>
        cases tu_str t1
        cases tu_str t2
        exact ⟨a, _, _, rfl, ha, t3, r⟩
theorem hd_isW (h : Hd) : inV (.str h.k) [.str (Str.ofString "in"), .str (Str.ofString "rest")] = h.isW := by
  cases h with
  | inn => exact (by decide +kernel : inV (.str (Str.ofString "in")) [.str (Str.ofString "in"), .str (Str.ofString "rest")] = true)
  | rest => exact (by decide +kernel : inV (.str (Str.ofString "rest")) [.str (Str.ofString "in"), .str (Str.ofString "rest")] = true)
  | tab => exact (by decide +kernel : inV (.str (Str.ofString "table")) [.str (Str.ofString "in"), .str (Str.ofString "rest")] = false)
  | mem => exact (by decide +kernel : inV (.str (Str.ofString "memory")) [.str (Str.ofString "in"), .str (Str.ofString "rest")] = false)
theorem wsH_snoc (hd : List Hd) (h : Hd) : wsH (hd ++ [h]) = wsH hd ++ (if h.isW then [(.name h.x, h.w)] else []) := by
  unfold wsH
  rw [List.filter_append, List.map_append]
  cases hh : h.isW <;> simp [hh]
theorem ssH_snoc (hd : List Hd) (h : Hd) : ssH (hd ++ [h]) = ssH hd ++ (if h.isW then [] else [(h.x, h.w)]) := by
  unfold ssH
  rw [List.filter_append, List.map_append]
  cases hh : h.isW <;> simp [hh]
theorem take_snoc {α : Type} {l : List α} {j : Nat} {x : α} (h : l[j]? = some x) : l.take (j + 1) = l.take j ++ [x] := by
  rw [List.take_add_one, h] <;> rfl
/-- one more word that terms may ask -/
theorem wl_app {H : Hp} {l : Addr} {ws : Wl} {p : Trm × Wd} {u : V} (h : WlAt H l ws) (t : Tu H u (wlD p)) : ∃ xs, H l = some (.lst xs) ∧ xs.length = ws.length ∧ WlAt (upd H l (.lst (xs ++ [u]))) l (ws ++ [p]) := by
  obtain ⟨xs, hx, tx⟩ := h
  have l := tx.len
  rw [List.length_map] at l
  refine ⟨xs, hx, l, _, upd_same, ?_⟩
  rw [List.map_append]
  exact (tx.mono (.putL hx)).app (.cons (t.mono (.putL hx)) .nil)
theorem sl_app {H : Hp} {l : Addr} {ws : Sl} {p : Str × Wd} {u : V} (h : SlAt H l ws) (t : Tu H u (slD p)) : ∃ xs, H l = some (.lst xs) ∧ xs.length = ws.length ∧ SlAt (upd H l (.lst (xs ++ [u]))) l (ws ++ [p]) := by
  obtain ⟨xs, hx, tx⟩ := h
  have l := tx.len
  rw [List.length_map] at l
  refine ⟨xs, hx, l, _, upd_same, ?_⟩
  rw [List.map_append]
  exact (tx.mono (.putL hx)).app (.cons (t.mono (.putL hx)) .nil)
theorem wl_tk {H H' : Hp} {l : Addr} {ws : Wl} {B : List Addr} (h : WlAt H l ws) (b : But B H H') (hl : l ∉ B) (tk : Tk H H') : WlAt H' l ws := by
  obtain ⟨xs, hx, t⟩ := h
  exact ⟨xs, b _ _ hl hx, t.mono tk⟩
theorem sl_tk {H H' : Hp} {l : Addr} {ws : Sl} {B : List Addr} (h : SlAt H l ws) (b : But B H H') (hl : l ∉ B) (tk : Tk H H') : SlAt H' l ws := by
  obtain ⟨xs, hx, t⟩ := h
  exact ⟨xs, b _ _ hl hx, t.mono tk⟩
theorem vr_L_heads (vs H Q E) (h : sp_L_heads K vs H Q E) : (rd_L_heads K) { nx := fun _ H' => Q .non H', rt := Q } (start ["_law_draw", "_law_names_here", "_law_params", "_law_has", "_law_number", "_law_rows", "_law_k", "_law_width_here", "_law_more", "_law_size", "_law_some", "_law_row", "_law_j"] vs) H := by
  obtain ⟨d, a, nl, p, hs, h0, h1, ns, k, zs, ps, rfl, ⟨hd, hk⟩, ⟨hnl, lz, nz⟩, hp, ⟨hhs, hh0, hh1⟩, ⟨np1, np2, n01, np3, np4⟩, ⟨sp1, sp2, sp3⟩, q⟩ := h
  have tk0 := hd.1
  have dnl : d ≠ nl := fun z => by
    rw [z, hnl] at tk0
    have := congrArg List.length (HO.lst.inj (Option.some.inj tk0))
    rw [List.length_map] at this
    simp at this
    omega
  unfold rd_L_heads
  walk_at "zz"
  refine ⟨d, a, ns, k, rfl, hd, by omega, fun i H1 i0 i1 hd1 b1 => ?_⟩
  walk_at "zz"
  refine ⟨szl (by simp), fun r hr => ?_⟩
  have r0 : H r = none := But.fresh b1 hr (fun z => by
    rw [List.mem_singleton.mp z, hd1.1] at hr
    cases hr)
  have er := Ex.new (o := .lst []) hr
  have I0 : HI K H (upd H1 r (.lst [])) d a nl p r ns (k + 1) zs ps 0 [] := by
    refine ⟨⟨[], upd_same, .nil⟩, (fun x hx => by cases hx), er _ _ (b1 _ _ (by simp [dnl.symm]) hnl), rfl, hd1.ex er, (b1.mono (by simp)).trans (But.ex er), (hp.bu (by simp [np2]) b1).bu (B := []) (by simp) (But.ex er), ⟨?_, ?_, dnl, np2, np1, ?_⟩, r0, sp1, sep_new hd.2 r0⟩
    · intro z
      rw [z, tk0] at r0
      cases r0
    · intro z
      rw [z, hnl] at r0
      cases r0
    · intro z
      rw [← z, hp.1] at r0
      cases r0
  clear er
  generalize upd H1 r (.lst []) = H2 at I0 ⊢
  walk_at "zz"
  refine ⟨szl (by simp), fun c1 hc1 => ?_⟩
  have I1 := I0.ex (Ex.new (o := .lst [V.int 1, V.int 2, V.int 2, V.int 3, V.int 0]) hc1)
  walk_at "zz"
  obtain ⟨x1, hx1, mx1⟩ := at_ints (l := [1, 2, 2, 3, 0]) (i := i % 5) (by omega) (by show i % 5 < 5; omega)
  refine z_ixL (sq_of upd_same) hx1 ?_
  have bx1 : 0 ≤ x1 ∧ x1 ≤ 3 := by
    simp only [List.mem_cons, List.not_mem_nil, or_false] at mx1
    omega
  walk_at "zz"
  refine z_FR1 (by omega) (fun j σ' H' => ∃ y6 c hd, σ' = [some (.ref d), some (.ref nl), some (.ref p), some (.ref hs), some (.int i), some (.ref r), y6, none, none, none, none, none, none] ∧ HI K H H' d a nl p r ns c zs ps hd.length hd ∧ c ≤ k + 1 + j ∧ hd.length ≤ j) ⟨_, _, [], rfl, I1, by omega, Nat.le_refl _⟩ (fun j σ' H' hj h => ?_) (fun σ' H' h => ?_)
  · obtain ⟨y6, c, hd, rfl, I, hc, hl⟩ := h
    obtain ⟨us0, hus0, _⟩ := I.row
    walk_at "zz"
    refine z_tyl (sq_of hus0) ?_
    walk_at "zz"
    refine z_tyl (sq_of I.nm) ?_
    walk_at "zz"
    refine z_pop0 I.nm (by omega) fun z hz => ?_
    have J := I.pop
    generalize upd H' nl _ = H3 at J ⊢
    walk_at "zz"
    refine ⟨d, a, p, ns, c, ps, rfl, ⟨J.dr, by omega⟩, J.pp.at_, fun v H4 w hd4 b4 tw okw => ?_⟩
    have J4 := J.dw hd4 b4
    walk_at "zz"
    refine ⟨szl (by simp), fun t0 ht0 => ?_⟩
    have e5 := Ex.new (o := .tup [.str (Str.ofString "in"), .str z, v]) ht0
    have tr : Tu (upd H4 t0 (.tup [.str (Str.ofString "in"), .str z, v])) (.ref t0) (Hd.inn z w).d := Tu.mk ht0 (.cons (.str _) (.cons (.str _) (.cons tw .nil)))
    have J5 := J4.ex e5
    generalize upd H4 t0 _ = H5 at J5 tr ⊢
    obtain ⟨us, hus, tus⟩ := J5.row
    have lus := tus.len
    rw [List.length_map] at lus
    walk_at "zz"
    refine z_rapp hus (szlt (by omega)) ?_
    refine ⟨_, c + 1, hd ++ [.inn z w], rfl, ?_, by omega, by simp; omega⟩
    have := J5.app hus tr ⟨nz z (List.mem_of_getElem? hz), okw, trivial⟩ hz
    rw [List.length_append] at *
    exact this
  obtain ⟨y6, cA, hda, rfl, IA, hcA, hlA⟩ := h
  have hcA' : cA ≤ k + 4 := by omega
  have hlA' : hda.length ≤ 3 := by omega
  clear hcA hlA hx1 mx1 I0 I1 hd1 b1
  walk_at "zz"
  refine ⟨szl (by simp), fun c2 hc2 => ?_⟩
  have I2 := IA.ex (Ex.new (o := .lst [V.int 0, V.int 1, V.int 1, V.int 2]) hc2)
  walk_at "zz"
  obtain ⟨x2, hx2, mx2⟩ := at_ints (l := [0, 1, 1, 2]) (i := i / 5 % 4) (by omega) (by show i / 5 % 4 < 4; omega)
  refine z_ixL (sq_of upd_same) hx2 ?_
  have bx2 : 0 ≤ x2 ∧ x2 ≤ 2 := by
    simp only [List.mem_cons, List.not_mem_nil, or_false] at mx2
    omega
  walk_at "zz"
  refine z_FR1 (by omega) (fun j σ' H' => ∃ y6 y7 c hd, σ' = [some (.ref d), some (.ref nl), some (.ref p), some (.ref hs), some (.int i), some (.ref r), y6, y7, none, none, none, none, none] ∧ HI K H H' d a nl p r ns c zs ps hd.length hd ∧ c ≤ k + 4 + 2 * j ∧ hd.length ≤ 3 + j) ⟨_, _, _, _, rfl, I2, by omega, by omega⟩ (fun j σ' H' hj h => ?_) (fun σ' H' h => ?_)
  · obtain ⟨y6, y7, c, hd, rfl, I, hc, hl⟩ := h
    walk_at "zz"
    refine ⟨d, a, p, ns, c, ps, rfl, ⟨I.dr, by omega⟩, I.pp.at_, fun v H3 w hd3 b3 tw okw => ?_⟩
    have J3 := I.dw hd3 b3
    obtain ⟨us0, hus0, _⟩ := J3.row
    walk_at "zz"
    refine z_tyl (sq_of hus0) ?_
    walk_at "zz"
    refine z_tyl (sq_of J3.nm) ?_
    walk_at "zz"
    refine z_pop0 J3.nm (by omega) fun z hz => ?_
    have J := J3.pop
    have tw' : Tu _ v (wdD w) := tw.mono (Tk.putL J3.nm (o := .lst ((zs.drop (hd.length + 1)).map V.str)))
    generalize upd H3 nl _ = H4 at J tw' ⊢
    clear tw
    walk_at "zz"
    refine ⟨d, a, ns, c + 1, rfl, J.dr, by omega, fun n H5 n0 n1 hd5 b5 => ?_⟩
    have tw5 := tw'.mono (J.dr.tk b5)
    have J5 := J.dw hd5 b5
    walk_at "zz"
    refine ⟨n, v, w, rfl, n0, tw5, fun z => ?_, fun x x0 x1 => fun H6 e6 => ?_⟩
    · rcases okw with h | ⟨h, _⟩
      · exact h.2
      · exact absurd z (hp.2.2 _ h).ne
    have J6 := J5.ex e6
    walk_at "zz"
    refine ⟨szl (by simp), fun t0 ht0 => ?_⟩
    have e7 := Ex.new (o := .tup [.str (Str.ofString "rest"), .str z, v, .int x]) ht0
    have tr : Tu (upd H6 t0 (.tup [.str (Str.ofString "rest"), .str z, v, .int x])) (.ref t0) (Hd.rest z w x).d := Tu.mk ht0 (.cons (.str _) (.cons (.str _) (.cons (tw5.ex e6) (.cons (.int _) .nil))))
    have J7 := J6.ex e7
    generalize upd H6 t0 _ = H7 at J7 tr ⊢
    obtain ⟨us, hus, tus⟩ := J7.row
    have lus := tus.len
    rw [List.length_map] at lus
    walk_at "zz"
    refine z_rapp hus (szlt (by omega)) ?_
    refine ⟨_, _, c + 1 + 1, hd ++ [.rest z w x], rfl, ?_, by omega, by simp; omega⟩
    have := J7.app hus tr ⟨nz z (List.mem_of_getElem? hz), okw, x0, x1⟩ hz
    rw [List.length_append] at *
    exact this
  obtain ⟨y6, y7, cB, hdb, rfl, IB, hcB, hlB⟩ := h
  have hcB' : cB ≤ k + 8 := by omega
  have hlB' : hdb.length ≤ 5 := by omega
  clear hcB hlB hx2 mx2 IA I2
  walk_at "zz"
  refine ⟨szl (by simp), fun c3 hc3 => ?_⟩
  have I3 := IB.ex (Ex.new (o := .lst [V.int 0, V.int 1, V.int 1, V.int 2]) hc3)
  walk_at "zz"
  obtain ⟨x3, hx3, mx3⟩ := at_ints (l := [0, 1, 1, 2]) (i := i / 20 % 4) (by omega) (by show i / 20 % 4 < 4; omega)
  refine z_ixL (sq_of upd_same) hx3 ?_
  have bx3 : 0 ≤ x3 ∧ x3 ≤ 2 := by
    simp only [List.mem_cons, List.not_mem_nil, or_false] at mx3
    omega
  walk_at "zz"
  refine z_FR1 (by omega) (fun j σ' H' => ∃ y6 y7 y8 y9 y10 c hd, σ' = [some (.ref d), some (.ref nl), some (.ref p), some (.ref hs), some (.int i), some (.ref r), y6, y7, y8, y9, y10, none, none] ∧ HI K H H' d a nl p r ns c zs ps hd.length hd ∧ c ≤ k + 8 + 2 * j ∧ hd.length ≤ 5 + j) ⟨_, _, _, _, _, _, _, rfl, I3, by omega, by omega⟩ (fun j σ' H' hj h => ?_) (fun σ' HC h => ?_)
  · obtain ⟨y6, y7, y8, y9, y10, c, hd, rfl, I, hc, hl⟩ := h
    walk_at "zz"
    refine ⟨d, a, p, ns, c, ps, rfl, ⟨I.dr, by omega⟩, I.pp.at_, fun v H3 w hd3 b3 tw okw => ?_⟩
    have J3 := I.dw hd3 b3
    walk_at "zz"
    refine ⟨d, a, ns, c + 1, rfl, J3.dr, by omega, fun n H4 n0 n1 hd4 b4 => ?_⟩
    have tw4 := tw.mono (J3.dr.tk b4)
    have J4 := J3.dw hd4 b4
    obtain ⟨us0, hus0, _⟩ := J4.row
    walk_at "zz"
    have bz : 1 ≤ (1 + n / 3 % 5 + 27 * if decide (V.int (n / 15 % 9) = V.int 0) = true then 1 else 0) ∧ (1 + n / 3 % 5 + 27 * if decide (V.int (n / 15 % 9) = V.int 0) = true then 1 else 0) ≤ 32 := by split <;> omega
    generalize (1 + n / 3 % 5 + 27 * if decide (V.int (n / 15 % 9) = V.int 0) = true then 1 else 0) = sz at bz ⊢
    refine ite_b (fun _ => ?_) (fun _ => ?_)
    · walk_at "zz"
      refine z_CR1w (by omega) (fun D i H5 => ∃ xs : List Int, H5 D = some (.lst (xs.map V.int)) ∧ xs.length = i ∧ (∀ x ∈ xs, 0 ≤ x ∧ x < 2 ^ 64) ∧ Ex H4 H5) (fun D hD0 => ⟨[], upd_same, rfl, (fun w hw => absurd hw (by simp)), Ex.new hD0⟩) (fun _ => rfl) (fun D i H5 hD0 hi hP => ?_) (fun D H5 hD0 hP => ?_)
      · obtain ⟨xs, hxs, lxs, bxs, e5⟩ := hP
        walk_at "zz"
        refine ⟨n, i, rfl, ⟨by omega, by omega⟩, fun H6 e6 => ?_⟩
        walk_at "zz"
        refine ⟨mixN n i, v, w, rfl, (mixN_b n i).1, tw4.ex (e5.trans e6), fun z => ?_, fun x x0 x1 => fun H7 e7 => ?_⟩
        · rcases okw with h | ⟨h, _⟩
          · exact h.2
          · exact absurd z (hp.2.2 _ h).ne
        refine ⟨xs.map V.int, e7 _ _ (e6 _ _ hxs), szlt (by rw [List.length_map]; omega), xs ++ [x], by rw [List.map_append]; exact upd_same, by simp; omega, fun y hy => ?_, ((e5.trans e6).trans e7).mut hD0⟩
        rcases List.mem_append.mp hy with hy | hy
        · exact bxs y hy
        · rw [List.mem_singleton.mp hy]
          exact ⟨x0, x1⟩
      obtain ⟨xs, hxs, lxs, bxs, e5⟩ := hP
      walk_at "zz"
      refine ⟨_, _, rfl, .inl ⟨sq_of hxs, fun l hl => ?_⟩⟩
      have e6 := Ex.new (o := .tup (xs.map V.int)) hl
      have J6 := (J4.ex e5).ex e6
      have tw6 := (tw4.ex e5).ex e6
      have tl6 : Tu (upd H5 l (.tup (xs.map V.int))) (.ref l) (.tuple (xs.map PyData.int)) := Tu.mk hl (.ints xs)
      generalize upd H5 l _ = H6 at J6 tw6 tl6 ⊢
      obtain ⟨us6, hus6, _⟩ := J6.row
      walk_at "zz"
      refine z_tyl (sq_of hus6) ?_
      walk_at "zz"
      refine z_tyl (sq_of J6.nm) ?_
      walk_at "zz"
      refine z_pop0 J6.nm (by omega) fun z hz => ?_
      have J := J6.pop
      have tw' : Tu _ v (wdD w) := tw6.mono (Tk.putL J6.nm (o := .lst ((zs.drop (hd.length + 1)).map V.str)))
      have tl' : Tu _ (.ref l) (.tuple (xs.map PyData.int)) := tl6.mono (Tk.putL J6.nm (o := .lst ((zs.drop (hd.length + 1)).map V.str)))
      generalize upd H6 nl _ = H7 at J tw' tl' ⊢
      walk_at "zz"
      refine ⟨szl (by simp), fun t0 ht0 => ?_⟩
      have e8 := Ex.new (o := .tup [.str (Str.ofString "table"), .str z, v, .ref l]) ht0
      have tr : Tu (upd H7 t0 (.tup [.str (Str.ofString "table"), .str z, v, .ref l])) (.ref t0) (Hd.tab z w xs).d := Tu.mk ht0 (.cons (.str _) (.cons (.str _) (.cons tw' (.cons tl' .nil))))
      have J8 := J.ex e8
      generalize upd H7 t0 _ = H8 at J8 tr ⊢
      obtain ⟨us, hus, tus⟩ := J8.row
      have lus := tus.len
      rw [List.length_map] at lus
      walk_at "zz"
      refine z_rapp hus (szlt (by omega)) ?_
      refine ⟨_, _, _, _, _, c + 1 + 1, hd ++ [.tab z w xs], rfl, ?_, by omega, by simp; omega⟩
      have := J8.app hus tr ⟨nz z (List.mem_of_getElem? hz), okw, by omega, bxs⟩ hz
      rw [List.length_append] at *
      exact this
    · walk_at "zz"
      obtain ⟨us0, hus0, _⟩ := J4.row
      refine z_tyl (sq_of hus0) ?_
      walk_at "zz"
      refine z_tyl (sq_of J4.nm) ?_
      walk_at "zz"
      refine z_pop0 J4.nm (by omega) fun z hz => ?_
      have J := J4.pop
      have tw' : Tu _ v (wdD w) := tw4.mono (Tk.putL J4.nm (o := .lst ((zs.drop (hd.length + 1)).map V.str)))
      generalize upd H4 nl _ = H7 at J tw' ⊢
      walk_at "zz"
      refine ⟨szl (by simp), fun t0 ht0 => ?_⟩
      have e8 := Ex.new (o := .tup [.str (Str.ofString "memory"), .str z, v, .int sz]) ht0
      have tr : Tu (upd H7 t0 (.tup [.str (Str.ofString "memory"), .str z, v, .int sz])) (.ref t0) (Hd.mem z w sz).d := Tu.mk ht0 (.cons (.str _) (.cons (.str _) (.cons tw' (.cons (.int _) .nil))))
      have J8 := J.ex e8
      generalize upd H7 t0 _ = H8 at J8 tr ⊢
      obtain ⟨us, hus, tus⟩ := J8.row
      have lus := tus.len
      rw [List.length_map] at lus
      walk_at "zz"
      refine z_rapp hus (szlt (by omega)) ?_
      refine ⟨_, _, _, _, _, c + 1 + 1, hd ++ [.mem z w sz], rfl, ?_, by omega, by simp; omega⟩
      have := J8.app hus tr ⟨nz z (List.mem_of_getElem? hz), okw, bz⟩ hz
      rw [List.length_append] at *
      exact this
  obtain ⟨y6, y7, y8, y9, y10, cC, hdc, rfl, IC, hcC, hlC⟩ := h
  have hcC' : cC ≤ k + 12 := by omega
  have hlC' : hdc.length ≤ 7 := by omega
  clear hcC hlC hx3 mx3 IB I3 hlB' hlA' hcA' hcB'
  obtain ⟨us, hus, tus⟩ := IC.row
  have lus := tus.len
  rw [List.length_map] at lus
  have no : ∀ {x : Addr} {o : HO}, H x = some o → x ≠ r := fun {x o} h z => by
    have := IC.r0
    rw [← z, h] at this
    cases this
  have e0 : ∀ {x : Addr}, H x = some (.lst []) → x ≠ d ∧ x ≠ nl := fun {x} h => by
    constructor
    · intro z
      rw [z, tk0] at h
      injection h with h
      injection h with h
      cases h
    · intro z
      rw [z, hnl] at h
      have := congrArg List.length (HO.lst.inj (Option.some.inj h))
      rw [List.length_map] at this
      have : zs.length = 0 := this
      omega
  obtain ⟨a0, a1⟩ := e0 hh0
  obtain ⟨a2, a3⟩ := e0 hh1
  have tkC : Tk H _ := .but IC.bu fun p hp => by
    simp only [List.mem_cons, List.not_mem_nil, or_false] at hp
    rcases hp with rfl | rfl
    · exact ⟨_, tk0⟩
    · exact ⟨_, hnl⟩
  have g0 := IC.bu _ _ (by simp [a0, a1]) hh0
  have g1 := IC.bu _ _ (by simp [a2, a3]) hh1
  have gs := tkC _ _ hhs
  walk_at "zz"
  refine z_FL (sq_of hus) (fun j σ' H' => ∃ y11, σ' = [some (.ref d), some (.ref nl), some (.ref p), some (.ref hs), some (.int i), some (.ref r), y6, y7, y8, y9, y10, y11, none] ∧ But [h0, h1] HC H' ∧ Tk HC H' ∧ WlAt H' h0 (wsH (hdc.take j)) ∧ SlAt H' h1 (ssH (hdc.take j))) ⟨_, rfl, But.refl, .refl, ⟨[], g0, .nil⟩, ⟨[], g1, .nil⟩⟩ (fun j σ' H' hj h => ?_) (fun j x σ' H' hj hx h => ?_) (fun σ' H' h => ?_)
  · obtain ⟨y11, rfl, b, tk, _⟩ := h
    exact sq_of (b _ _ (by simp [(no hh0).symm, (no hh1).symm]) hus)
  · obtain ⟨y11, rfl, b, tk, wl, sl⟩ := h
    obtain ⟨dd, hdd, tdd⟩ := tus.get hx
    rw [List.getElem?_map] at hdd
    obtain ⟨x0, hx0, rfl⟩ := Option.map_eq_some_iff.mp hdd
    obtain ⟨bb, wv, rest, rfl, hbb, tw, _⟩ := tu_hd (tdd.mono tk)
    have okx := IC.ok _ (List.mem_of_getElem? hx0)
    have lt : (hdc.take j).length ≤ 7 := by rw [List.length_take]; omega
    walk_at "zz"
    refine z_ixT (st_of hbb) (show atI _ ((0 : Nat) : Int) = _ from atI_nat rfl) ?_
    walk_at "zz"
    refine ⟨szl (by simp), fun c hc => ?_⟩
    have e1 := Ex.new (o := .tup [V.str (Str.ofString "in"), V.str (Str.ofString "rest")]) hc
    refine z_inT (st_of upd_same) rfl rfl ?_
    rw [show (if false = true then !inV (.str x0.k) [.str (Str.ofString "in"), .str (Str.ofString "rest")] else inV (.str x0.k) [.str (Str.ofString "in"), .str (Str.ofString "rest")]) = x0.isW from hd_isW x0]
    have wl1 := wl_ex e1 wl
    have sl1 := sl_ex e1 sl
    have tw1 := tw.ex e1
    have hbb1 := e1 _ _ hbb
    have b1 := b.trans (But.ex e1 (B := [h0, h1]))
    have tk1 := tk.trans (.ex e1)
    generalize upd H' c _ = H1 at e1 wl1 sl1 tw1 hbb1 b1 tk1 ⊢
    have gs1 := tk1 _ _ gs
    walk_at "zz"
    refine ite_b (fun isW => ?_) (fun isW => ?_)
    · obtain ⟨xs0, hxs0, _⟩ := id wl1
      walk_at "zz"
      refine z_ixT (st_of gs1) (show atI _ ((0 : Nat) : Int) = some (.ref h0) from atI_nat rfl) ?_
      walk_at "zz"
      refine z_tyl (sq_of hxs0) ?_
      walk_at "zz"
      refine z_ixT (st_of hbb1) (show atI _ ((1 : Nat) : Int) = _ from atI_nat rfl) ?_
      walk_at "zz"
      refine ⟨szl (by simp), fun t1 ht1 => ?_⟩
      have e2 := Ex.new (o := .tup [.str (Str.ofString "name"), .str x0.x]) ht1
      have tn2 : Tu (upd H1 t1 (.tup [.str (Str.ofString "name"), .str x0.x])) (.ref t1) (Trm.name x0.x).d := Tu.mk ht1 (.cons (.str _) (.cons (.str _) .nil))
      have hbb2 := e2 _ _ hbb1
      generalize upd H1 t1 _ = H2 at e2 tn2 hbb2 ⊢
      walk_at "zz"
      refine z_ixT (st_of hbb2) (show atI _ ((2 : Nat) : Int) = _ from atI_nat rfl) ?_
      walk_at "zz"
      refine ⟨szl (by simp), fun t2 ht2 => ?_⟩
      have e3 := Ex.new (o := .tup [.ref t1, wv]) ht2
      have tp : Tu (upd H2 t2 (.tup [.ref t1, wv])) (.ref t2) (wlD (.name x0.x, x0.w)) := Tu.mk ht2 (.cons tn2 (.cons (tw1.ex e2) .nil))
      have e23 := e2.trans e3
      generalize upd H2 t2 _ = H3 at e3 tp e23 ⊢
      obtain ⟨xs, hxs, lxs, wl3⟩ := wl_app (wl_ex e23 wl1) tp
      have lw : (wsH (hdc.take j)).length ≤ (hdc.take j).length := by
        unfold wsH
        rw [List.length_map]
        exact List.length_filter_le _ _
      walk_at "zz"
      refine z_rapp hxs (szlt (by omega)) ?_
      refine ⟨_, rfl, (b1.trans (But.ex e23)).trans (But.put (by simp)), (tk1.trans (.ex e23)).trans (.putL hxs), ?_, ?_⟩
      · rw [take_snoc hx0, wsH_snoc, isW]
        exact wl3
      · rw [take_snoc hx0, ssH_snoc, isW, if_pos rfl, List.append_nil]
        exact sl_tk (sl_ex e23 sl1) (But.put (B := [h0]) (by simp)) (by simp [n01.symm]) (.putL hxs)
    · obtain ⟨xs0, hxs0, _⟩ := id sl1
      walk_at "zz"
      refine z_ixT (st_of gs1) (show atI _ ((1 : Nat) : Int) = some (.ref h1) from atI_nat rfl) ?_
      walk_at "zz"
      refine z_tyl (sq_of hxs0) ?_
      walk_at "zz"
      refine z_ixT (st_of hbb1) (show atI _ ((1 : Nat) : Int) = _ from atI_nat rfl) ?_
      walk_at "zz"
      refine z_ixT (st_of hbb1) (show atI _ ((2 : Nat) : Int) = _ from atI_nat rfl) ?_
      walk_at "zz"
      refine ⟨szl (by simp), fun t2 ht2 => ?_⟩
      have e3 := Ex.new (o := .tup [.str x0.x, wv]) ht2
      have tp : Tu (upd H1 t2 (.tup [.str x0.x, wv])) (.ref t2) (slD (x0.x, x0.w)) := Tu.mk ht2 (.cons (.str _) (.cons tw1 .nil))
      generalize upd H1 t2 _ = H3 at e3 tp ⊢
      obtain ⟨xs, hxs, lxs, sl3⟩ := sl_app (sl_ex e3 sl1) tp
      have lw : (ssH (hdc.take j)).length ≤ (hdc.take j).length := by
        unfold ssH
        rw [List.length_map]
        exact List.length_filter_le _ _
      walk_at "zz"
      refine z_rapp hxs (szlt (by omega)) ?_
      refine ⟨_, rfl, (b1.trans (But.ex e3)).trans (But.put (by simp)), (tk1.trans (.ex e3)).trans (.putL hxs), ?_, ?_⟩
      · rw [take_snoc hx0, wsH_snoc, isW, if_neg (by simp), List.append_nil]
        exact wl_tk (wl_ex e3 wl1) (But.put (B := [h1]) (by simp)) (by simp [n01]) (.putL hxs)
      · rw [take_snoc hx0, ssH_snoc, isW]
        exact sl3
  obtain ⟨y11, rfl, b, tk, wl, sl⟩ := h
  walk_at "zz"
  rw [lus, List.take_length] at wl sl
  refine q r H' hdc cC us IC.r0 (b _ _ (by simp [(no hh0).symm, (no hh1).symm]) hus) (tus.mono tk) IC.ok hlC' (b _ _ (by simp [a1.symm, a3.symm]) IC.nm) IC.xs (IC.dr.bu (by simp [a0.symm, a2.symm]) (fun y hy => ?_) b) hcC' wl sl ((IC.bu.mono (by simp)).trans (b.mono (by simp)))
  simp only [List.mem_cons, List.not_mem_nil, or_false] at hy
  rcases hy with rfl | rfl
  · exact sp2
  · exact sp3
theorem two_at (i : Int) : atI (Str.ofString "^+" : Str).cps.toList (i % 2) = some (sg (Str.ofString "^+") i) ∧ sg (Str.ofString "^+") i ∈ (Str.ofString "^+" : Str).cps.toList := by
  have l2 : (Str.ofString "^+" : Str).length = 2 := by decide +kernel
  have := sg_at (z := Str.ofString "^+") (by rw [l2]; decide) i
  rw [l2] at this
  exact this
theorem two_ok (i : Int) : okT ⟨#[sg (Str.ofString "^+") i]⟩ 2 := (okT.one (okT.of "^+" (n := 2) (by decide +kernel)) (two_at i).2).mono (by decide)
theorem stp_ok (b : Bool) : okT (stp b) 4 := by
  cases b
  · exact (okT.of "out" (n := 3) (by decide +kernel)).mono (by decide)
  · exact okT.of "wire" (n := 4) (by decide +kernel)
theorem ow_d (b : Bool) (x : Str) (w : Wd) : (ow b x w).d = .tuple [.str (stp b), .str x, wdD w] := by cases b <;> rfl
/-- a term of a depth, where a part is drawn -/
theorem c_term {H : Hp} {Q : VK} {d a hs h0 h1 : Addr} {ns : List Int} {k : Nat} {ws : Wl} {ss : Sl} {ps : List Str} {v : V} {wd : Wd} {e : Nat} (E : En K H d a hs h0 h1 ns k ws ss ps) (hk : k ≤ 80000) (he : 1 ≤ e ∧ e < 4) (tv : Tu H v (wdD wd)) (okw : wOk ps wd) (q : ∀ (u : V) (H' : Hp) (t : Trm) (k' : Nat), k' ≤ k + 201 → But [d] H H' → Tk H H' → En K H' d a hs h0 h1 ns k' ws ss ps → Tu H' u t.d → TmOk ps ws e t → Q u H') : sp_L_term K 4 [.ref d, .ref hs, v, .int (e : Int)] H Q E0 :=
  ⟨d, a, hs, h0, h1, v, ns, k, ws, ss, wd, ps, e, rfl, he, E, by show k + 201 ≤ 90000; omega, tv, okw, fun u H' t k' hd hk' b tu ok => q u H' t k' hk' b (E.dr.tk b) (E.bu b hd) tu ok⟩
/-- the words that terms may ask get one more -/
theorem En.word {H : Hp} {d a hs h0 h1 : Addr} {ns : List Int} {k : Nat} {ws : Wl} {ss : Sl} {ps : List Str} {o : HO} {xs : List V} (E : En K H d a hs h0 h1 ns k ws ss ps) (hx : H h0 = some (.lst xs)) {p : Trm × Wd} (hw : WlAt (upd H h0 o) h0 (ws ++ [p])) (ok : p.1.ok ps ∧ p.1.deep ≤ 1 ∧ wOk ps p.2) (l : ws.length < 60) : En K (upd H h0 o) d a hs h0 h1 ns k (ws ++ [p]) ss ps := by
  have b : But [h0] H (upd H h0 o) := But.put (by simp)
  refine ⟨E.dr.bu (by simp [E.n0]) (fun y hy => by rw [List.mem_singleton.mp hy]; exact E.s0) b, b _ _ (fun z => ?_) E.has, hw, sl_tk E.sl b (by simp [E.n2.symm]) (.putL hx), E.n0, E.n1, E.n2, E.s0, E.s1, ⟨fun y hy => ?_, by rw [List.length_append]; simp; omega⟩, E.oks, E.hps⟩
  · have := E.has
    rw [List.mem_singleton.mp z, hx] at this
    cases this
  · rcases List.mem_append.mp hy with hy | hy
    · exact E.okl.1 y hy
    · rw [List.mem_singleton.mp hy]
      exact ok
theorem vr_L_wired (vs H Q E) (h : sp_L_wired K vs H Q E) : (rd_L_wired K) { nx := fun _ H' => Q .non H', rt := Q } (start ["_law_draw", "_law_step", "_law_own", "_law_params", "_law_has", "_law_number", "_law_width_here", "_law_store", "_law_term_here"] vs) H := by
  obtain ⟨d, a, p, hs, h0, h1, b, own, ns, k, ws, ss, ps, rfl, E, hk, nmo, lws, hp, npd, q⟩ := h
  unfold rd_L_wired
  walk_at "zz"
  refine ⟨d, a, ns, k, rfl, E.dr, by omega, fun i H1 i0 i1 hd1 b1 => ?_⟩
  have E1 := E.bu b1 hd1
  have hp1 := hp.bu (by simp [npd]) b1
  walk_at "zz"
  refine ⟨d, a, p, ns, k + 1, ps, rfl, ⟨E1.dr, by omega⟩, hp1.at_, fun wv H2 w hd2 b2 tw okw => ?_⟩
  have E2 := E1.bu b2 hd2
  have B2 := b1.trans b2
  clear E1 hp1 hd1 b1
  walk_at "zz"
  refine z_cut (fun σ' H' => ∃ (wv uv : V) (y7 : Option V) (w : Wd) (t : Trm) (k' : Nat), σ' = [some (.ref d), some (.str (stp b)), some (.str own), some (.ref p), some (.ref hs), some (.int i), some wv, y7, some uv] ∧ But [d] H H' ∧ Tu H' wv (wdD w) ∧ wOk3 ps w ∧ Tu H' uv t.d ∧ TmOk ps ws 4 t ∧ En K H' d a hs h0 h1 ns k' ws ss ps ∧ k' ≤ k + 700) ?_ (fun σ' H' hmid => ?_)
  · have no : ∀ H3, Ex H2 H3 → sp_L_term K 4 [.ref d, .ref hs, wv, .int 3] H3 (fun uv H' => ∃ (wv' uv' : V) (y7 : Option V) (w : Wd) (t : Trm) (k' : Nat), [some (.ref d), some (.str (stp b)), some (.str own), some (.ref p), some (.ref hs), some (.int i), some wv, none, some uv] = [some (.ref d), some (.str (stp b)), some (.str own), some (.ref p), some (.ref hs), some (.int i), some wv', y7, some uv'] ∧ But [d] H H' ∧ Tu H' wv' (wdD w) ∧ wOk3 ps w ∧ Tu H' uv' t.d ∧ TmOk ps ws 4 t ∧ En K H' d a hs h0 h1 ns k' ws ss ps ∧ k' ≤ k + 700) E0 := fun H3 e3 => by
      refine c_term (e := 3) (E2.ex e3) (by omega) (by decide) (tw.ex e3) okw.ok fun u H' t k' hk' bb kk E' tu ok => ?_
      exact ⟨_, _, _, w, t, k', rfl, (B2.trans (But.ex e3)).trans bb, (tw.ex e3).mono kk, okw, tu, ⟨ok.1, by have := ok.2.1; omega, ok.2.2⟩, E', by omega⟩
    walk_at "zz"
    refine z_ixT (st_of E2.has) (show atI _ ((1 : Nat) : Int) = some (.ref h1) from atI_nat rfl) ?_
    walk_at "zz"
    refine ⟨szl (by simp), fun c hc => ?_⟩
    obtain ⟨xs, hx, tx⟩ := id E2.sl
    refine z_neTu (sq_of hx) tx (sl_cl E2.hps E2.oks) hc ?_
    have e3 := Ex.new (o := .lst []) hc
    have E3 := E2.ex e3
    have hx3 := e3 _ _ hx
    have no3 := no _ e3
    have B3 := B2.trans (But.ex e3 (B := [d]))
    have tx3 := tx.ex e3
    generalize upd H2 c (.lst []) = H3 at e3 E3 hx3 no3 B3 tx3 ⊢
    clear no
    walk_at "zz"
    refine ite_b (fun ne => ?_) (fun _ => ite_f (by walk_at "zz"; exact no3))
    have lp := isE ne
    have lx := tx.len
    rw [List.length_map] at lx
    walk_at "zz"
    refine ite_b (fun _ => ?_) (fun _ => by walk_at "zz"; exact no3)
    clear no3 ne
    walk_at "zz"
    refine z_ixT (st_of E3.has) (show atI _ ((1 : Nat) : Int) = some (.ref h1) from atI_nat rfl) ?_
    walk_at "zz"
    refine z_ixT (st_of E3.has) (show atI _ ((1 : Nat) : Int) = some (.ref h1) from atI_nat rfl) ?_
    walk_at "zz"
    refine z_lenL (sq_of hx3) ?_
    walk_at "zz"
    obtain ⟨x, dd, hxx, hdm, tdd, _⟩ := at_tu tx3 (i := i / 3 % (xs.length : Nat)) (Int.emod_nonneg _ (by omega)) (by
      have := Int.emod_lt_of_pos (i / 3) (show (0 : Int) < ((xs.length : Nat) : Int) by omega)
      rw [List.length_map]
      omega)
    obtain ⟨pw, hpw, rfl⟩ := List.mem_map.mp hdm
    obtain ⟨b5, x5, wv2, rfl, hb5, tx5, tw2⟩ := tu2 tdd
    cases tu_str tx5
    obtain ⟨nmp, okp⟩ := E3.oks.1 pw hpw
    refine z_ixL (sq_of hx3) hxx ?_
    refine z_g2 (st_of hb5) ?_
    walk_at "zz"
    refine ⟨szl (by simp), fun t0 ht0 => ?_⟩
    have e4 := Ex.new (o := .tup [.str (Str.ofString ""), .int (1 + i / 12 % 3)]) ht0
    walk_at "zz"
    refine c_term (e := 2) (E3.ex e4) (by omega) (by decide) (Tu.mk ht0 (.cons (.str _) (.cons (.int _) .nil))) (wd0 (1 + i / 12 % 3) (by omega) ps) fun u H5 t5 k5 hk5 bb5 kk5 E5 tu5 ok5 => ?_
    have B5 := (B3.trans (But.ex e4)).trans bb5
    have tw5 := (tw2.ex e4).mono kk5
    clear e4 kk5 bb5 tw2 tdd tx3 hx3 B3
    walk_at "zz"
    refine ⟨szl (by simp), fun t6 ht6 => ?_⟩
    have e6 := Ex.new (o := .tup [.str (Str.ofString "at"), .str pw.1, u]) ht6
    have tu6 : Tu (upd H5 t6 (.tup [.str (Str.ofString "at"), .str pw.1, u])) (.ref t6) (Trm.at_ pw.1 t5).d := Tu.mk ht6 (.cons (.str _) (.cons (.str _) (.cons tu5 .nil)))
    have ok6 : TmOk ps ws 3 (.at_ pw.1 t5) := ⟨⟨nmp, ok5.1⟩, by have := ok5.2.1; show t5.deep + 1 ≤ 3; omega, ok5.2.2⟩
    have E6 := E5.ex e6
    have B6 := B5.trans (But.ex e6 (B := [d]))
    have tw6 := tw5.ex e6
    generalize upd H5 t6 _ = H6 at e6 tu6 E6 B6 tw6 ⊢
    walk_at "zz"
    refine ite_b (fun _ => ?_) (fun _ => z_next ⟨_, _, _, pw.2, _, k5, rfl, B6, tw6, okp, tu6, ⟨ok6.1, by have := ok6.2.1; omega, ok6.2.2⟩, E6, by omega⟩)
    walk_at "zz"
    refine z_ixS (szl (by decide +kernel)) (two_at _).1 ?_
    walk_at "zz"
    refine c_term (e := 2) E6 (by omega) (by decide) tw6 okp.ok fun u7 H7 t7 k7 hk7 bb7 kk7 E7 tu7 ok7 => ?_
    walk_at "zz"
    refine ⟨szl (by simp), fun t8 ht8 => ?_⟩
    have e8 := Ex.new (o := .tup [.str (Str.ofString "two"), .str ⟨#[sg (Str.ofString "^+") (i / 72)]⟩, u7, .ref t6]) ht8
    refine ⟨_, _, _, pw.2, .two ⟨#[sg (Str.ofString "^+") (i / 72)]⟩ t7 (.at_ pw.1 t5), k7, rfl, (B6.trans bb7).trans (But.ex e8), (tw6.mono kk7).ex e8, okp, Tu.mk ht8 (.cons (.str _) (.cons (.str _) (.cons tu7 (.cons (tu6.mono kk7) .nil)))), ⟨⟨two_ok _, ok7.1, ok6.1⟩, ?_, fun x hx => ?_⟩, E7.ex e8, by omega⟩
    · have := ok6.2.1
      have := ok7.2.1
      show max t7.deep (Trm.at_ pw.1 t5).deep + 1 ≤ 4
      omega
    · rcases List.mem_append.mp hx with hx | hx
      · exact ok7.2.2 x hx
      · exact ok6.2.2 x hx
  obtain ⟨wv, uv, y7, w, t, k', rfl, B3, tw3, okw3, tu3, ok3, E3, hk3⟩ := hmid
  walk_at "zz"
  refine z_ixT (st_of E3.has) (show atI _ ((0 : Nat) : Int) = some (.ref h0) from atI_nat rfl) ?_
  obtain ⟨xs0, hxs0, _⟩ := id E3.wl
  walk_at "zz"
  refine z_tyl (sq_of hxs0) ?_
  walk_at "zz"
  refine ⟨szl (by simp), fun t1 ht1 => ?_⟩
  have e4 := Ex.new (o := .tup [.str (Str.ofString "name"), .str own]) ht1
  have tn4 : Tu (upd H' t1 (.tup [.str (Str.ofString "name"), .str own])) (.ref t1) (Trm.name own).d := Tu.mk ht1 (.cons (.str _) (.cons (.str _) .nil))
  generalize upd H' t1 _ = H4 at e4 tn4 ⊢
  walk_at "zz"
  refine ⟨szl (by simp), fun t2 ht2 => ?_⟩
  have e5 := Ex.new (o := .tup [.ref t1, wv]) ht2
  have tp : Tu (upd H4 t2 (.tup [.ref t1, wv])) (.ref t2) (wlD (.name own, w)) := Tu.mk ht2 (.cons tn4 (.cons (tw3.ex e4) .nil))
  have e45 := e4.trans e5
  generalize upd H4 t2 _ = H5 at e5 tp e45 ⊢
  obtain ⟨xs, hxs, lxs, wl5⟩ := wl_app (wl_ex e45 E3.wl) tp
  walk_at "zz"
  refine z_rapp hxs (szlt (by omega)) ?_
  have E6 := (E3.ex e45).word hxs wl5 ⟨nmo, Nat.le_refl _, okw3.ok⟩ (by omega)
  have tk6 : Tk H5 (upd H5 h0 (.lst (xs ++ [.ref t2]))) := .putL hxs
  have B6 : But [d, h0] H (upd H5 h0 (.lst (xs ++ [.ref t2]))) := ((B3.mono (by simp)).trans (But.ex e45)).trans (But.put (by simp))
  have tw6 := (tw3.ex e45).mono tk6
  have tu6 := (tu3.ex e45).mono tk6
  generalize upd H5 h0 _ = H6 at E6 tk6 B6 tw6 tu6 ⊢
  walk_at "zz"
  refine ⟨szl (by simp), fun t7 ht7 => ?_⟩
  have e7 := Ex.new (o := .tup [.str (stp b), .str own, wv]) ht7
  have tr7 : Tu (upd H6 t7 (.tup [.str (stp b), .str own, wv])) (.ref t7) (ow b own w).d := by
    rw [ow_d]
    exact Tu.mk ht7 (.cons (.str _) (.cons (.str _) (.cons tw6 .nil)))
  generalize upd H6 t7 _ = H7 at e7 tr7 ⊢
  walk_at "zz"
  refine ⟨szl (by simp), fun t8 ht8 => ?_⟩
  have e8 := Ex.new (o := .tup [.str (Str.ofString "let"), .str own, uv]) ht8
  have tr8 : Tu (upd H7 t8 (.tup [.str (Str.ofString "let"), .str own, uv])) (.ref t8) (Y.Row.let_ own t).d := Tu.mk ht8 (.cons (.str _) (.cons (.str _) (.cons (tu6.ex e7) .nil)))
  have tr7' := tr7.ex e8
  have E8 := (E6.ex e7).ex e8
  have B8 := (B6.trans (But.ex e7)).trans (But.ex e8)
  generalize upd H7 t8 _ = H8 at e8 tr8 tr7' E8 B8 ⊢
  walk_at "zz"
  refine ⟨szl (by simp), fun r hr => ?_⟩
  have e9 := Ex.new (o := .lst [.ref t7, .ref t8]) hr
  refine q r _ _ _ w t k' (But.fresh B8 hr (fun z => ?_)) upd_same (tr7'.ex e9) (tr8.ex e9) okw3 ok3 (E8.ex e9) hk3 (B8.trans (But.ex e9))
  simp only [List.mem_cons, List.not_mem_nil, or_false] at z
  rcases z with rfl | rfl
  · have := E8.dr.1
    rw [hr] at this
    cases this
  · obtain ⟨_, h, _⟩ := E8.wl
    rw [hr] at h
    cases h
theorem PartAt.bu {H H' : Hp} {v : V} {pt : Y.Part} {B : List Addr} (h : PartAt H v pt) (b : But B H H') (l : ∀ p ∈ B, ∃ xs, H p = some (.lst xs)) : PartAt H' v pt := by
  obtain ⟨a, pa, ra, o, rs, rfl, h1, h2, h3, h4, h5⟩ := h
  have ne : ∀ {x : Addr} {u : HO}, H x = some u → (∀ xs, u ≠ .lst xs) → x ∉ B := fun hx n hm => by
    obtain ⟨xs, e⟩ := l _ hm
    rw [hx] at e
    exact n xs (Option.some.inj e)
  exact ⟨a, pa, ra, o, rs, rfl, b _ _ (ne h1 fun _ z => by cases z) h1, b _ _ (ne h2 fun _ z => by cases z) h2, h3, b _ _ (ne h4 fun _ z => by cases z) h4, h5.mono (.but b l)⟩
theorem PartAt.ex {H H' : Hp} {v : V} {pt : Y.Part} (h : PartAt H v pt) (e : Ex H H') : PartAt H' v pt := h.bu (B := []) (But.ex e) (fun _ h => by cases h)
theorem r_d (r : Y.Row) : r.d = .tuple (.str (rk r) :: .str (rx r) :: rmore r) := by cases r <;> rfl
theorem tu_row {H : Hp} {v : V} {r : Y.Row} (t : Tu H v r.d) : ∃ b rest, v = .ref b ∧ H b = some (.tup (.str (rk r) :: .str (rx r) :: rest)) ∧ TuAll H rest (rmore r) := by
  rw [r_d] at t
  obtain ⟨a, vs, rfl, ha, t⟩ := tu_tup t
  cases t with
  | cons t1 r => cases r with
    | cons t2 r =>
      cases tu_str t1
      cases tu_str t2
      exact ⟨a, _, rfl, ha, r⟩
theorem inV_in : inV (.str (Str.ofString "in")) [.str (Str.ofString "in"), .str (Str.ofString "out")] = true := by decide +kernel
theorem inV_out : inV (.str (Str.ofString "out")) [.str (Str.ofString "in"), .str (Str.ofString "out")] = true := by decide +kernel
theorem inV_wire : inV (.str (Str.ofString "wire")) [.str (Str.ofString "in"), .str (Str.ofString "out")] = false := by decide +kernel
theorem inV_rest : inV (.str (Str.ofString "rest")) [.str (Str.ofString "in"), .str (Str.ofString "out")] = false := by decide +kernel
theorem inV_let : inV (.str (Str.ofString "let")) [.str (Str.ofString "in"), .str (Str.ofString "out")] = false := by decide +kernel
theorem inV_use : inV (.str (Str.ofString "use")) [.str (Str.ofString "in"), .str (Str.ofString "out")] = false := by decide +kernel
theorem inV_tab : inV (.str (Str.ofString "table")) [.str (Str.ofString "in"), .str (Str.ofString "out")] = false := by decide +kernel
theorem inV_mem : inV (.str (Str.ofString "memory")) [.str (Str.ofString "in"), .str (Str.ofString "out")] = false := by decide +kernel
theorem door_in (r : Y.Row) : inV (.str (rk r)) [.str (Str.ofString "in"), .str (Str.ofString "out")] = (door r).isSome := by
  cases r
  · exact inV_in
  · exact inV_out
  · exact inV_wire
  · exact inV_rest
  · exact inV_let
  · exact inV_use
  · exact inV_tab
  · exact inV_mem
theorem door_some {r : Y.Row} {e : Bool × Str × Wd} (h : door r = some e) : rk r = kB e.1 ∧ rx r = e.2.1 ∧ rmore r = [wdD e.2.2] := by
  cases r <;> cases h <;> exact ⟨rfl, rfl, rfl⟩
theorem drs_snoc {rows : List Y.Row} {j : Nat} {r : Y.Row} (h : rows[j]? = some r) : drs (rows.take (j + 1)) = drs (rows.take j) ++ (match door r with | some e => [e] | none => []) := by
  rw [take_snoc h]
  unfold drs
  rw [List.filterMap_append]
  cases hd : door r <;> simp [hd]
/-- a door as it is known while a use is drawn -/
def drD (e : Bool × Str × Wd) : PyData := .tuple [.str (kB e.1), .str e.2.1, wdD e.2.2]
def kx (e : Bool × Str × Wd) : Bool × Str := (e.1, e.2.1)
theorem kB_in (b : Bool) : decide (V.str (kB b) = V.str (Str.ofString "in")) = b := by cases b <;> decide +kernel
theorem kB_out (b : Bool) : decide (V.str (kB b) = V.str (Str.ofString "out")) = !b := by cases b <;> decide +kernel
theorem useW.ok3 {ps : List Str} {f : Wd} {w : Wd} (h : useW ps f) (hw : -3 ≤ w.2 ∧ w.2 ≤ 5) : wOk ps (f.1, f.2 + w.2) := by
  rcases h with ⟨h1, h2, h3⟩ | ⟨h1, h2⟩
  · exact .inl ⟨h1, by show 1 ≤ f.2 + w.2; omega, by show f.2 + w.2 ≤ 64; omega⟩
  · exact .inr ⟨h1, by show -64 ≤ f.2 + w.2; omega, by show f.2 + w.2 ≤ 64; omega⟩
theorem kx_in (l : List (Bool × Str × Wd)) : (l.filter fun e => e.1).length = ((l.map kx).filter fun e => e.1).length := by
  rw [List.filter_map, List.length_map] <;> rfl
theorem kx_out (l : List (Bool × Str × Wd)) : ((l.filter fun e => !e.1).map fun e => e.2.1) = ((l.map kx).filter fun e => !e.1).map fun e => e.2 := by
  rw [List.filter_map, List.map_map] <;> rfl
theorem vr_L_used (vs H Q E) (h : sp_L_used K vs H Q E) : (rd_L_used K) { nx := fun _ H' => Q .non H', rt := Q } (start ["_law_draw", "_law_parts", "_law_name", "_law_params", "_law_has", "_law_number", "_law_used_here", "_law_widths", "_law_k", "_law_more", "_law_doors", "_law_row", "_law_wide", "_law_first_here", "_law_terms_here", "_law_kind", "_law_door"] vs) H := by
  obtain ⟨d, a, pl, p, hs, h0, h1, own, ns, k, ws, ss, ps, yd, rfl, E, hk, nmo, lws, hp, npd, ⟨⟨ys, hys, ly, ty⟩, ny, oky, npl⟩, q⟩ := h
  unfold rd_L_used
  walk_at "zz"
  refine ⟨d, a, ns, k, rfl, E.dr, by omega, fun i H1 i0 i1 hd1 b1 => ?_⟩
  have E1 := E.bu b1 hd1
  have hp1 := hp.bu (by simp [npd]) b1
  have hys1 := b1 _ _ (by simp [npl]) hys
  have ylen : 0 < yd.length := List.length_pos_iff.mpr ny
  walk_at "zz"
  refine z_lenL (sq_of hys1) ?_
  walk_at "zz"
  refine z_lenL (sq_of hys1) ?_
  walk_at "zz"
  have m0 := Int.emod_nonneg (i % 3) (show ((ys.length : Nat) : Int) ≠ 0 by omega)
  have m1 := Int.emod_lt_of_pos (i % 3) (show 0 < ((ys.length : Nat) : Int) by omega)
  obtain ⟨m, hm⟩ := Int.eq_ofNat_of_zero_le (show 0 ≤ ((ys.length : Nat) : Int) - 1 - i % 3 % (ys.length : Nat) by omega)
  have hm' : m < ys.length := by omega
  obtain ⟨v0, hv0⟩ : ∃ v, ys[m]? = some v := ⟨_, List.getElem?_eq_getElem hm'⟩
  obtain ⟨pt, hpt⟩ : ∃ pt, yd[m]? = some pt := ⟨_, List.getElem?_eq_getElem (by omega)⟩
  have memp := List.mem_of_getElem? hpt
  have PP := oky pt memp
  have P1 := (ty m v0 pt hv0 hpt).bu b1 (fun y hy => by rw [List.mem_singleton.mp hy]; exact ⟨_, E.dr.1⟩)
  refine z_ixL (sq_of hys1) (show atI ys _ = some v0 by rw [hm]; exact atI_nat hv0) ?_
  clear hv0 hpt hm hm' m0 m1 ty hys hys1
  obtain ⟨bu, pa, ra, o, rs, rfl, hbu, hpa, od, hra, trs⟩ := id P1
  walk_at "zz"
  refine ⟨szl (by simp), fun W hW => ?_⟩
  have W0 : H W = none := But.fresh b1 hW (fun z => by
    rw [List.mem_singleton.mp z, hd1.1] at hW
    cases hW)
  have eW := Ex.new (o := .lst []) hW
  have gW : upd H1 W (.lst []) W = some (.lst []) := upd_same
  have E2 := E1.ex eW
  have hbu2 := eW _ _ hbu
  have hpa2 := eW _ _ hpa
  have hra2 := eW _ _ hra
  have trs2 := trs.ex eW
  have hp2 := hp1.bu (B := []) (by simp) (But.ex eW)
  have b2 := b1.trans (But.ex eW)
  generalize upd H1 W _ = H2 at eW gW E2 hbu2 hpa2 hra2 trs2 hp2 b2 ⊢
  clear E1 hbu hpa hra trs hp1 b1 P1
  walk_at "zz"
  refine z_ixT (st_of hbu2) (show atI _ ((1 : Nat) : Int) = _ from atI_nat rfl) ?_
  walk_at "zz"
  refine z_lenT (fst_of hpa2) ?_
  walk_at "zz"
  have Wd_ : W ≠ d := fun z => by
    rw [z, E.dr.1] at W0
    cases W0
  have plen := PP.pl
  refine z_FR1 (by rw [List.length_map]; omega) (fun j σ' H' => ∃ y8 y9, ∃ (uws : List Wd) (us : List V) (c : Nat), σ' = [some (.ref d), some (.ref pl), some (.str own), some (.ref p), some (.ref hs), some (.int i), some (.ref bu), some (.ref W), y8, y9, none, none, none, none, none, none, none] ∧ H' W = some (.lst us) ∧ TuAll H' us (uws.map wdD) ∧ uws.length = j ∧ (∀ w ∈ uws, useW ps w) ∧ Dr K H' d a ns c ∧ c ≤ k + 1 + j ∧ But [d] H H' ∧ But [d, W] H2 H' ∧ Tk H2 H') ⟨_, _, [], [], k + 1, rfl, gW, .nil, rfl, (fun _ h => by cases h), E2.dr, by omega, b2, But.refl, .refl⟩ (fun j σ' H' hj h => ?_) (fun σ' H' h => ?_)
  · obtain ⟨y8, y9, uws, us, c, rfl, hus, tus, luw, okw, dr, hc, bb, bb2, tk⟩ := h
    rw [List.length_map] at hj
    walk_at "zz"
    refine ⟨d, a, ns, c, rfl, dr, by omega, fun mo H3 n0 n1 hd3 b3 => ?_⟩
    have hus3 := b3 _ _ (by simp [Wd_]) hus
    have tus3 := tus.mono (dr.tk b3)
    have tk3 := tk.trans (dr.tk b3)
    have bb3 := bb.trans b3
    have bb23 := bb2.trans (b3.mono (by simp))
    have hp3 := hp.bu (by simp [npd]) bb3
    walk_at "zz"
    refine ⟨szl (by simp), fun e hce => ?_⟩
    refine z_neStr (sq_of hp3.1) hp3.2.2 hce ?_
    have e4 := Ex.new (o := .lst []) hce
    have hus4 := e4 _ _ hus3
    have tus4 := tus3.ex e4
    have tk4 := tk3.trans (.ex e4)
    have bb4 := bb3.trans (But.ex e4)
    have bb24 := bb23.trans (But.ex e4)
    have hp4 := hp3.bu (B := []) (by simp) (But.ex e4)
    have hd4 := hd3.ex e4
    generalize upd H3 e _ = H4 at e4 hus4 tus4 tk4 bb4 bb24 hp4 hd4 ⊢
    clear hus tus tk bb bb2 hus3 tus3 tk3 bb3 bb23 hp3 dr hd3 b3
    have lus := tus4.len
    rw [List.length_map] at lus
    have fin : ∀ (t : Addr) (w : Wd), H4 t = none → useW ps w → ∃ (y8 y9 : Option V), ∃ (uws' : List Wd) (us' : List V) (c' : Nat), [some (.ref d), some (.ref pl), some (.str own), some (.ref p), some (.ref hs), some (.int i), some (.ref bu), some (.ref W), some (.int j), some (.int mo), none, none, none, none, none, none, none] = [some (.ref d), some (.ref pl), some (.str own), some (.ref p), some (.ref hs), some (.int i), some (.ref bu), some (.ref W), y8, y9, none, none, none, none, none, none, none] ∧ upd (upd H4 t (.tup [.str w.1, .int w.2])) W (.lst (us ++ [.ref t])) W = some (.lst us') ∧ TuAll (upd (upd H4 t (.tup [.str w.1, .int w.2])) W (.lst (us ++ [.ref t]))) us' (uws'.map wdD) ∧ uws'.length = j + 1 ∧ (∀ w ∈ uws', useW ps w) ∧ Dr K (upd (upd H4 t (.tup [.str w.1, .int w.2])) W (.lst (us ++ [.ref t]))) d a ns c' ∧ c' ≤ k + 1 + (j + 1) ∧ But [d] H (upd (upd H4 t (.tup [.str w.1, .int w.2])) W (.lst (us ++ [.ref t]))) ∧ But [d, W] H2 (upd (upd H4 t (.tup [.str w.1, .int w.2])) W (.lst (us ++ [.ref t]))) ∧ Tk H2 (upd (upd H4 t (.tup [.str w.1, .int w.2])) W (.lst (us ++ [.ref t]))) := fun t w ht okt => by
      have e5 := Ex.new (o := .tup [.str w.1, .int w.2]) ht
      have tt : Tu (upd H4 t (.tup [.str w.1, .int w.2])) (.ref t) (wdD w) := Tu.mk ht (.cons (.str _) (.cons (.int _) .nil))
      have k5 : Tk (upd H4 t (.tup [.str w.1, .int w.2])) (upd (upd H4 t (.tup [.str w.1, .int w.2])) W (.lst (us ++ [.ref t]))) := .putL (e5 _ _ hus4)
      refine ⟨_, _, uws ++ [w], _, c + 1, rfl, upd_same, ?_, by simp; omega, fun x hx => ?_, (hd4.ex e5).bu (B := [W]) (by simp [Wd_.symm]) (fun y hy => by rw [List.mem_singleton.mp hy]; exact sep_new E.dr.2 W0) (But.put (by simp)), by omega, (bb4.trans (But.ex e5)).mut W0, (bb24.trans (But.ex e5)).trans (But.put (by simp)), (tk4.trans (.ex e5)).trans k5⟩
      · rw [List.map_append]
        exact ((tus4.ex e5).mono k5).app (.cons (tt.mono k5) .nil)
      · rcases List.mem_append.mp hx with hx | hx
        · exact okw x hx
        · rw [List.mem_singleton.mp hx]
          exact okt
    walk_at "zz"
    refine ite_b (fun ne => ?_) (fun _ => ite_f ?_)
    rotate_left
    · walk_at "zz"
      refine z_tyl (sq_of hus4) ?_
      walk_at "zz"
      refine ⟨szl (by simp), fun t ht => ?_⟩
      walk_at "zz"
      refine z_rapp (Ex.new ht _ _ hus4) (szlt (by omega)) ?_
      exact fin t (Str.ofString "", 4 + mo / 2 % 56) ht (.inl ⟨rfl, by show 4 ≤ 4 + mo / 2 % 56; omega, by show 4 + mo / 2 % 56 ≤ 59; omega⟩)
    walk_at "zz"
    refine ite_b (fun _ => ?_) (fun _ => ?_)
    rotate_left
    · walk_at "zz"
      refine z_tyl (sq_of hus4) ?_
      walk_at "zz"
      refine ⟨szl (by simp), fun t ht => ?_⟩
      walk_at "zz"
      refine z_rapp (Ex.new ht _ _ hus4) (szlt (by omega)) ?_
      exact fin t (Str.ofString "", 4 + mo / 2 % 56) ht (.inl ⟨rfl, by show 4 ≤ 4 + mo / 2 % 56; omega, by show 4 + mo / 2 % 56 ≤ 59; omega⟩)
    have lz := isE ne
    walk_at "zz"
    refine z_tyl (sq_of hus4) ?_
    walk_at "zz"
    refine z_lenL (sq_of hp4.1) ?_
    walk_at "zz"
    refine z_i (show (0 : Int) < (((ps.map V.str).length : Nat) : Int) by rw [List.length_map]; omega) ?_
    obtain ⟨nm, hnm, mnm⟩ := at_strs (l := ps) (i := mo / 2 % (((ps.map V.str).length : Nat) : Int)) (Int.emod_nonneg _ (by rw [List.length_map]; omega)) (by
      have := Int.emod_lt_of_pos (mo / 2) (show (0 : Int) < (((ps.map V.str).length : Nat) : Int) by rw [List.length_map]; omega)
      rw [List.length_map] at this ⊢
      exact this)
    refine z_ixL (sq_of hp4.1) hnm ?_
    walk_at "zz"
    refine ⟨szl (by simp), fun t ht => ?_⟩
    walk_at "zz"
    refine z_rapp (Ex.new ht _ _ hus4) (szlt (by omega)) ?_
    exact fin t (nm, 0) ht (.inr ⟨mnm, rfl⟩)
  obtain ⟨y8, y9, uws, us, c, rfl, hus, tus, luw, okw, dr, hc, bb, bb2, tk⟩ := h
  rw [List.length_map] at luw hc
  have luw' : uws.length = pt.params.length := luw
  have hc' : c ≤ k + 4 := by
    have : ((pt.params.length : Nat) : Int).toNat = pt.params.length := rfl
    omega
  clear hc luw
  have E3 := E.bu bb dr
  have hbu3 := tk _ _ hbu2
  have hpa3 := bb2 pa _ (fun z => by
    simp only [List.mem_cons, List.not_mem_nil, or_false] at z
    rcases z with z | z
    · rw [z, E2.dr.1] at hpa2
      cases hpa2
    · rw [z, gW] at hpa2
      cases hpa2) hpa2
  have hra3 := tk _ _ hra2
  have trs3 := trs2.mono tk
  clear E2 hbu2 hpa2 hra2 trs2 tk bb2 hp2 b2 gW
  walk_at "zz"
  refine ⟨szl (by simp), fun D hD => ?_⟩
  have D0 : H D = none := But.fresh bb hD (fun z => by
    rw [List.mem_singleton.mp z, dr.1] at hD
    cases hD)
  have eD := Ex.new (o := .lst []) hD
  walk_at "zz"
  refine z_ixT (st_of (eD _ _ hbu3)) (show atI _ ((2 : Nat) : Int) = _ from atI_nat rfl) ?_
  walk_at "zz"
  have lrs := trs3.len
  rw [List.length_map] at lrs
  have lrows := PP.rl
  refine z_FT (st_of (eD _ _ hra3)) (fun j σ' H2 => ∃ (y11 y12 y13 : Option V) (ds : List (Bool × Str × Wd)) (us2 : List V), σ' = [some (.ref d), some (.ref pl), some (.str own), some (.ref p), some (.ref hs), some (.int i), some (.ref bu), some (.ref W), y8, y9, some (.ref D), y11, y12, y13, none, none, none] ∧ H2 D = some (.lst us2) ∧ TuAll H2 us2 (ds.map drD) ∧ ds.map kx = (drs (pt.rows.take j)).map kx ∧ (∀ e ∈ ds, wOk ps e.2.2) ∧ Ex H' H2) ⟨_, _, _, [], [], rfl, upd_same, .nil, rfl, (fun _ h => by cases h), eD⟩ (fun j σ' H2 hj h => ?_) (fun j x σ' H2 hj hx h => ?_) (fun σ' H2 h => ?_)
  · obtain ⟨_, _, _, _, _, _, _, _, _, _, e⟩ := h
    exact st_of (e _ _ hra3)
  · obtain ⟨y11, y12, y13, ds, us2, rfl, hus2, tus2, kds, okds, e2⟩ := h
    obtain ⟨dd, hdd, tdd⟩ := trs3.get hx
    rw [List.getElem?_map] at hdd
    obtain ⟨r, hr, rfl⟩ := Option.map_eq_some_iff.mp hdd
    obtain ⟨b, rest, rfl, hb, trest⟩ := tu_row (tdd.ex e2)
    have lus2 := tus2.len
    have lds : ds.length ≤ 30 := by
      have h1 := congrArg List.length kds
      rw [List.length_map, List.length_map] at h1
      have h2 : (drs (pt.rows.take j)).length ≤ (pt.rows.take j).length := List.length_filterMap_le _ _
      rw [List.length_take] at h2
      omega
    rw [List.length_map] at lus2
    walk_at "zz"
    refine z_ixT (st_of hb) (show atI _ ((0 : Nat) : Int) = _ from atI_nat rfl) ?_
    walk_at "zz"
    refine ⟨szl (by simp), fun c1 hc1 => ?_⟩
    refine z_inT (st_of upd_same) rfl rfl ?_
    rw [show (if false = true then !inV (.str (rk r)) [.str (Str.ofString "in"), .str (Str.ofString "out")] else inV (.str (rk r)) [.str (Str.ofString "in"), .str (Str.ofString "out")]) = (door r).isSome from door_in r]
    have e3 := Ex.new (o := .tup [V.str (Str.ofString "in"), V.str (Str.ofString "out")]) hc1
    have hus3 := e3 _ _ hus2
    have tus3 := tus2.ex e3
    have hb3 := e3 _ _ hb
    have trest3 := trest.ex e3
    have e23 := e2.trans e3
    generalize upd H2 c1 _ = H3 at e3 hus3 tus3 hb3 trest3 e23 ⊢
    clear hus2 tus2 hb trest e2 hc1
    cases hdr : door r with
    | none =>
      walk_at "zz"
      refine ⟨_, _, _, ds, us2, rfl, hus3, tus3, ?_, okds, e23⟩
      rw [drs_snoc hr, hdr, List.append_nil]
      exact kds
    | some e =>
      obtain ⟨hk1, hx1, hm1⟩ := door_some hdr
      have okd := PP.dr e (List.mem_filterMap.mpr ⟨r, List.mem_of_getElem? hr, hdr⟩)
      rw [hm1] at trest3
      cases trest3 with
      | cons tw0 tn => cases tn with
        | nil =>
          rename_i wv
          rw [hk1, hx1] at hb3
          walk_at "zz"
          refine ite_t ?_
          walk_at "zz"
          refine z_ixT (st_of hb3) (show atI _ ((2 : Nat) : Int) = _ from atI_nat rfl) ?_
          walk_at "zz"
          refine z_cut (fun σ' H4 => ∃ (wv' : V) (w' : Wd) (y13 : Option V), σ' = [some (.ref d), some (.ref pl), some (.str own), some (.ref p), some (.ref hs), some (.int i), some (.ref bu), some (.ref W), y8, y9, some (.ref D), some (.ref b), some wv', y13, none, none, none] ∧ Ex H3 H4 ∧ Tu H4 wv' (wdD w') ∧ wOk ps w') ?_ (fun σ' H4 hmid => ?_)
          · obtain ⟨bw, xw, yw, rfl, hbw, txw, tyw⟩ := tu2 (id tw0)
            cases tu_str txw
            cases tu_int tyw
            walk_at "zz"
            refine z_ixT (st_of hbw) (show atI _ ((0 : Nat) : Int) = _ from atI_nat rfl) ?_
            walk_at "zz"
            refine ite_b (fun ne => ?_) (fun hw0 => ?_)
            rotate_left
            · have hw0 : e.2.2.1 = Str.ofString "" := by
                have := of_decide_eq_true (show decide (V.str e.2.2.1 = V.str (Str.ofString "")) = true by simpa using hw0)
                injection this
              refine ⟨_, e.2.2, _, rfl, Ex.refl _, tw0, .inl ⟨hw0, ?_⟩⟩
              rcases okd.2 with h | h
              · exact h.2
              · exact absurd hw0 (PP.pn _ h.1).ne
            have hw1 : e.2.2.1 ∈ pt.params ∧ -3 ≤ e.2.2.2 ∧ e.2.2.2 ≤ 5 := by
              rcases okd.2 with h | h
              · rw [h.1] at ne
                simp at ne
              · exact h
            obtain ⟨jj, hjj, hno⟩ := first_at hw1.1
            have hjl : jj < pt.params.length := (List.getElem?_eq_some_iff.mp hjj).1
            walk_at "zz"
            refine z_ixT (st_of (e23 _ _ hbu3)) (show atI _ ((1 : Nat) : Int) = _ from atI_nat rfl) ?_
            refine z_tyt (e23 _ _ hpa3) od ?_
            walk_at "zz"
            refine z_ixT (st_of hbw) (show atI _ ((0 : Nat) : Int) = _ from atI_nat rfl) ?_
            walk_at "zz"
            refine z_rtidx (fst_of (e23 _ _ hpa3)) hjj hno ?_
            obtain ⟨fw, hfw⟩ : ∃ fw, uws[jj]? = some fw := ⟨_, List.getElem?_eq_getElem (by omega)⟩
            have tus4 := tus.ex e23
            obtain ⟨fv, hfv, tfv⟩ := tus4.getD (i := jj) (d := wdD fw) (by rw [List.getElem?_map, hfw] <;> rfl)
            refine z_ixL (sq_of (e23 _ _ hus)) (atI_nat hfv) ?_
            obtain ⟨bf, xf, yf, rfl, hbf, txf, tyf⟩ := tu2 tfv
            cases tu_str txf
            cases tu_int tyf
            walk_at "zz"
            refine z_ixT (st_of hbf) (show atI _ ((0 : Nat) : Int) = _ from atI_nat rfl) ?_
            walk_at "zz"
            refine z_ixT (st_of hbf) (show atI _ ((1 : Nat) : Int) = _ from atI_nat rfl) ?_
            walk_at "zz"
            refine z_ixT (st_of hbw) (show atI _ ((1 : Nat) : Int) = _ from atI_nat rfl) ?_
            walk_at "zz"
            refine ⟨szl (by simp), fun t9 ht9 => ?_⟩
            exact ⟨_, (fw.1, fw.2 + e.2.2.2), _, rfl, Ex.new ht9, Tu.mk ht9 (.cons (.str _) (.cons (.int _) .nil)), (okw fw (List.mem_of_getElem? hfw)).ok3 hw1.2⟩
          obtain ⟨wv', w', y13', rfl, e4, tw4, okw4⟩ := hmid
          have hb4 := e4 _ _ hb3
          walk_at "zz"
          refine z_tyl (sq_of (e4 _ _ hus3)) ?_
          walk_at "zz"
          refine z_ixT (st_of hb4) (show atI _ ((0 : Nat) : Int) = _ from atI_nat rfl) ?_
          walk_at "zz"
          refine z_ixT (st_of hb4) (show atI _ ((1 : Nat) : Int) = _ from atI_nat rfl) ?_
          walk_at "zz"
          refine ⟨szl (by simp), fun t5 ht5 => ?_⟩
          have e5 := Ex.new (o := .tup [.str (kB e.1), .str e.2.1, wv']) ht5
          have tr : Tu (upd H4 t5 (.tup [.str (kB e.1), .str e.2.1, wv'])) (.ref t5) (drD (e.1, e.2.1, w')) := Tu.mk ht5 (.cons (.str _) (.cons (.str _) (.cons tw4 .nil)))
          have e45 := e4.trans e5
          generalize upd H4 t5 _ = H5 at e5 tr e45 ⊢
          walk_at "zz"
          refine z_rapp (e45 _ _ hus3) (szlt (by omega)) ?_
          have k6 : Tk H5 (upd H5 D (.lst (us2 ++ [.ref t5]))) := .putL (e45 _ _ hus3)
          refine ⟨_, _, _, ds ++ [(e.1, e.2.1, w')], _, rfl, upd_same, ?_, ?_, fun y hy => ?_, (e23.trans e45).mut hD⟩
          · rw [List.map_append]
            exact ((tus3.ex e45).mono k6).app (.cons (tr.mono k6) .nil)
          · rw [drs_snoc hr, hdr, List.map_append, List.map_append, kds] <;> rfl
          · rcases List.mem_append.mp hy with hy | hy
            · exact okds y hy
            · rw [List.mem_singleton.mp hy]
              exact okw4
  obtain ⟨y11, y12, y13, ds, us2, rfl, hus2, tus2, kds, okds, e2⟩ := h
  rw [lrs, List.take_length] at kds
  have insl : (ds.filter fun e => e.1).length = (insOf pt).length := by
    unfold insOf
    rw [List.length_map, kx_in, kx_in, kds]
  have outl : ((ds.filter fun e => !e.1).map fun e => e.2.1) = outsOf pt := by
    unfold outsOf
    rw [kx_out, kx_out, kds]
  have nmds : ∀ e ∈ ds, nmS e.2.1 := fun e he => by
    have h1 : kx e ∈ ds.map kx := List.mem_map_of_mem he
    rw [kds] at h1
    obtain ⟨e', he', h2⟩ := List.mem_map.mp h1
    have h3 : e'.2.1 = e.2.1 := congrArg Prod.snd h2
    rw [← h3]
    exact (PP.dr e' he').1
  have pdi := PP.di
  have pdt := PP.dt
  have E4 := E3.ex e2
  have hus4 := e2 _ _ hus
  have tus4 := tus.ex e2
  have bb4 := bb.trans (But.ex e2)
  have hbu4 := e2 _ _ hbu3
  have nDd : D ≠ d := fun z => by
    rw [z, E.dr.1] at D0
    cases D0
  clear E3 hus tus bb hbu3 e2 hpa3 hra3 trs3 lrs
  have l2 := tus2.len
  rw [List.length_map] at l2
  walk_at "zz"
  refine z_CLg (sq_of hus2) (fun L j H3 => ∃ (ts : List Trm) (us3 : List V) (k' : Nat), H3 L = some (.lst us3) ∧ TuAll H3 us3 (ts.map Trm.d) ∧ ts.length = ((ds.take j).filter fun e => e.1).length ∧ (∀ t ∈ ts, TmOk ps ws 3 t) ∧ Dr K H3 d a ns k' ∧ k' ≤ c + 201 * ts.length ∧ But [d] H2 H3) (fun L hL => ⟨[], [], c, upd_same, .nil, rfl, (fun _ h => by cases h), E4.dr.ex (Ex.new hL), by omega, But.ex (Ex.new hL)⟩) (fun L j H3 hL p => ?_) (fun L j x H3 hL hj hx p => ?_) (fun L H3 hL p => ?_)
  · obtain ⟨_, _, _, _, _, _, _, _, _, b⟩ := p
    exact sq_of (b _ _ (by simp [nDd]) hus2)
  · obtain ⟨ts, us3, k', hus3, tus3, lts, okts, dr3, hk3, b3⟩ := p
    have tk3 := E4.dr.tk b3
    obtain ⟨dd, hdd, tdd⟩ := tus2.get hx
    rw [List.getElem?_map] at hdd
    obtain ⟨e, he, rfl⟩ := Option.map_eq_some_iff.mp hdd
    obtain ⟨be, xe, ye, ze, rfl, hbe, txe, tye, tze⟩ := tu3 tdd
    cases tu_str txe
    cases tu_str tye
    have nLd : L ≠ d := fun z => by
      rw [z, E4.dr.1] at hL
      cases hL
    have fl : ((ds.take j).filter fun e => e.1).length ≤ 7 := Nat.le_trans (List.Sublist.length_le ((List.take_sublist j ds).filter _)) (by rw [insl]; exact pdi)
    refine z_g3 (st_of (tk3 _ _ hbe)) ⟨rfl, ?_⟩
    walk_at "zz"
    rw [kB_in]
    refine ite_b (fun hin => ?_) (fun hin => ?_)
    · walk_at "zz"
      refine c_term (e := 3) (E4.bu b3 dr3) (by omega) (by decide) (tze.mono tk3) (okds e (List.mem_of_getElem? he)) fun u H5 t k5 hk5 b5 kk5 E5 tu5 ok5 => ?_
      have hus5 := b5 _ _ (by simp [nLd]) hus3
      have k6 : Tk H5 (upd H5 L (.lst (us3 ++ [u]))) := .putL hus5
      have l3 := tus3.len
      rw [List.length_map] at l3
      refine ⟨us3, hus5, szlt (by omega), ts ++ [t], _, k5, upd_same, ?_, ?_, fun y hy => ?_, E5.dr.bu (B := [L]) (by simp [nLd.symm]) (fun y hy => by rw [List.mem_singleton.mp hy]; exact sep_new E4.dr.2 hL) (But.put (by simp)), by rw [List.length_append, List.length_singleton]; omega, (b3.trans b5).mut hL⟩
      · rw [List.map_append]
        exact ((tus3.mono kk5).mono k6).app (.cons (tu5.mono k6) .nil)
      · rw [take_snoc he, List.filter_append, List.length_append, List.length_append, lts]
        simp [hin]
      · rcases List.mem_append.mp hy with hy | hy
        · exact okts y hy
        · rw [List.mem_singleton.mp hy]
          exact ok5
    · refine ⟨ts, us3, k', hus3, tus3, ?_, okts, dr3, hk3, b3⟩
      rw [take_snoc he, List.filter_append, List.length_append, lts]
      simp [hin]
  obtain ⟨ts, us3, k', hus3, tus3, lts, okts, dr3, hk3, b3⟩ := p
  have tk3 := E4.dr.tk b3
  have E5 := E4.bu b3 dr3
  rw [l2, List.take_length, insl] at lts
  have bb5 := bb4.trans b3
  have hbu5 := tk3 _ _ hbu4
  have tus5 := tus4.mono tk3
  have hus5 := b3 _ _ (by simp [Wd_]) hus4
  have husD := b3 _ _ (by simp [nDd]) hus2
  have tusD := tus2.mono tk3
  have L0 : H L = none := But.fresh bb4 hL (fun z => by
    rw [List.mem_singleton.mp z, E4.dr.1] at hL
    cases hL)
  clear E4 b3 hbu4 tus4 hus4 hus2 tus2 bb4 hL dr3
  obtain ⟨xs0, hx0, _⟩ := E.wl
  have nh : ∀ {x : Addr}, H x = none → x ≠ h0 := fun h z => by
    rw [z, hx0] at h
    cases h
  walk_at "zz"
  refine z_FL (sq_of husD) (fun j σ' H4 => ∃ (y15 y16 y12 : Option V) (es : Wl), σ' = [some (.ref d), some (.ref pl), some (.str own), some (.ref p), some (.ref hs), some (.int i), some (.ref bu), some (.ref W), y8, y9, some (.ref D), y11, y12, y13, some (.ref L), y15, y16] ∧ es.map Prod.fst = ((ds.take j).filter fun e => !e.1).map (fun e => Trm.of_ own e.2.1) ∧ En K H4 d a hs h0 h1 ns k' (ws ++ es) ss ps ∧ But [h0] H3 H4 ∧ Tk H3 H4) ⟨_, _, _, [], rfl, rfl, by rw [List.append_nil]; exact E5, But.refl, .refl⟩ (fun j σ' H4 hj h => ?_) (fun j x σ' H4 hj hx h => ?_) (fun σ' H4 h => ?_)
  · obtain ⟨_, _, _, _, _, _, _, b, _⟩ := h
    exact sq_of (b _ _ (by simp [nh D0]) husD)
  · obtain ⟨y15, y16, y12, es, rfl, mes, E6, b6, tk6⟩ := h
    obtain ⟨dd, hdd, tdd⟩ := tusD.get hx
    rw [List.getElem?_map] at hdd
    obtain ⟨e, he, rfl⟩ := Option.map_eq_some_iff.mp hdd
    obtain ⟨be, xe, ye, ze, rfl, hbe, txe, tye, tze⟩ := tu3 tdd
    cases tu_str txe
    cases tu_str tye
    have me := List.mem_of_getElem? he
    have fl : ((ds.take j).filter fun e => !e.1).length ≤ 6 := Nat.le_trans (List.Sublist.length_le ((List.take_sublist j ds).filter _)) (by rw [← List.length_map (f := fun e => e.2.1), outl]; exact pdt)
    have lm := congrArg List.length mes
    rw [List.length_map, List.length_map] at lm
    walk_at "zz"
    refine z_g3 (st_of (tk6 _ _ hbe)) ?_
    walk_at "zz"
    rw [kB_out]
    refine ite_b (fun hout => ?_) (fun hout => ?_)
    · walk_at "zz"
      refine z_ixT (st_of E6.has) (show atI _ ((0 : Nat) : Int) = some (.ref h0) from atI_nat rfl) ?_
      obtain ⟨xs1, hxs1, _⟩ := id E6.wl
      walk_at "zz"
      refine z_tyl (sq_of hxs1) ?_
      walk_at "zz"
      refine ⟨szl (by simp), fun t1 ht1 => ?_⟩
      have e7 := Ex.new (o := .tup [.str (Str.ofString "of"), .str own, .str e.2.1]) ht1
      have tn7 : Tu (upd H4 t1 (.tup [.str (Str.ofString "of"), .str own, .str e.2.1])) (.ref t1) (Trm.of_ own e.2.1).d := Tu.mk ht1 (.cons (.str _) (.cons (.str _) (.cons (.str _) .nil)))
      generalize upd H4 t1 _ = H7 at e7 tn7 ⊢
      walk_at "zz"
      refine ⟨szl (by simp), fun t2 ht2 => ?_⟩
      have e8 := Ex.new (o := .tup [.ref t1, ze]) ht2
      have tp : Tu (upd H7 t2 (.tup [.ref t1, ze])) (.ref t2) (wlD (.of_ own e.2.1, e.2.2)) := Tu.mk ht2 (.cons tn7 (.cons ((tze.mono tk6).ex e7) .nil))
      have e78 := e7.trans e8
      generalize upd H7 t2 _ = H8 at e8 tp e78 ⊢
      obtain ⟨xs, hxs, lxs, wl8⟩ := wl_app (wl_ex e78 E6.wl) tp
      rw [List.length_append] at lxs
      walk_at "zz"
      refine z_rapp hxs (szlt (by omega)) ?_
      have E9 := (E6.ex e78).word hxs wl8 ⟨⟨nmo, nmds e me⟩, Nat.le_refl _, okds e me⟩ (by rw [List.length_append]; omega)
      refine ⟨_, _, _, es ++ [(.of_ own e.2.1, e.2.2)], rfl, ?_, by rw [← List.append_assoc]; exact E9, (b6.trans (But.ex e78)).trans (But.put (by simp)), (tk6.trans (.ex e78)).trans (.putL hxs)⟩
      rw [take_snoc he, List.filter_append, List.map_append, List.map_append, mes]
      simp [hout]
    · walk_at "zz"
      refine ⟨_, _, _, es, rfl, ?_, E6, b6, tk6⟩
      rw [take_snoc he, List.filter_append, List.map_append, mes]
      simp [hout]
  obtain ⟨y15, y16, y12', es, rfl, mes, E6, b6, tk6⟩ := h
  rw [l2, List.take_length, show (ds.filter fun e => !e.1).map (fun e => Trm.of_ own e.2.1) = ((ds.filter fun e => !e.1).map fun e => e.2.1).map (Trm.of_ own) by rw [List.map_map] <;> rfl, outl] at mes
  have nhW := nh W0
  have nhL := nh L0
  walk_at "zz"
  refine z_ixT (st_of (tk6 _ _ hbu5)) (show atI _ ((0 : Nat) : Int) = _ from atI_nat rfl) ?_
  walk_at "zz"
  refine ⟨_, _, rfl, .inl ⟨sq_of (b6 _ _ (by simp [nhW]) hus5), fun l1 hl1 => ?_⟩⟩
  have e7 := Ex.new (o := .tup us) hl1
  have tu7 : Tu (upd H4 l1 (.tup us)) (.ref l1) (.tuple (uws.map wdD)) := Tu.mk hl1 (tus5.mono tk6)
  have hL7 := e7 _ _ (b6 _ _ (by simp [nhL]) hus3)
  generalize upd H4 l1 _ = H7 at e7 tu7 hL7 ⊢
  walk_at "zz"
  refine ⟨_, _, rfl, .inl ⟨sq_of hL7, fun l2 hl2 => ?_⟩⟩
  have e8 := Ex.new (o := .tup us3) hl2
  have tu8 : Tu (upd H7 l2 (.tup us3)) (.ref l2) (.tuple (ts.map Trm.d)) := Tu.mk hl2 ((tus3.mono tk6).ex e7)
  generalize upd H7 l2 _ = H8 at e8 tu8 ⊢
  walk_at "zz"
  refine ⟨szl (by simp), fun t9 ht9 => ?_⟩
  have e9 := Ex.new (o := .tup [.str (Str.ofString "use"), .str own, .str pt.name, .ref l1, .ref l2]) ht9
  exact q _ _ pt uws ts es k' memp luw' okw okts lts mes (Tu.mk ht9 (.cons (.str _) (.cons (.str _) (.cons (.str _) (.cons (tu7.ex e8) (.cons tu8 .nil)))))) (((E6.ex e7).ex e8).ex e9) (by omega) ((((((bb5.mono (by simp)).trans (b6.mono (by simp))).trans (But.ex e7)).trans (But.ex e8)).trans (But.ex e9)))
theorem cl_tu {ds : List PyData} {n : Nat} (h : ∀ d ∈ ds, cl d = true ∧ d.depth ≤ n) : cl (.tuple ds) = true ∧ (PyData.tuple ds).depth ≤ n + 1 := by
  have := cl_all (f := fun d : PyData => d) h
  rw [List.map_id'] at this
  refine ⟨this.1, ?_⟩
  show PyData.depthAll ds + 1 ≤ n + 1
  omega
theorem useW.wOk {ps : List Str} {w : Wd} (h : useW ps w) : Y.wOk ps w := by
  rcases h with ⟨h1, h2, h3⟩ | ⟨h1, h2⟩
  · exact .inl ⟨h1, by omega, by omega⟩
  · exact .inr ⟨h1, by omega, by omega⟩
theorem cl_nm {x : Str} {n : Nat} (h : nmS x) : cl (.str x) = true ∧ (PyData.str x).depth ≤ n := ⟨cl_str h.ok, Nat.zero_le _⟩
theorem cl_wd {ps : List Str} (hp : ∀ z ∈ ps, nmS z) {w : Wd} {n : Nat} (h : Y.wOk ps w) : cl (wdD w) = true ∧ (wdD w).depth ≤ n + 1 := ⟨wd_cl (wOk.t h hp), by show 1 ≤ n + 1; omega⟩
theorem cl_int {i : Int} {n : Nat} : cl (.int i) = true ∧ (PyData.int i).depth ≤ n := ⟨rfl, Nat.zero_le _⟩
theorem cl_trm {ps : List Str} (hp : ∀ z ∈ ps, nmS z) {t : Trm} (h : t.ok ps) (hd : t.deep ≤ 4) : cl t.d = true ∧ t.d.depth ≤ 6 := by
  have := trm_cl hp t h
  exact ⟨this.1, by omega⟩
theorem rk_ok (r : Y.Row) : okT (rk r) 8 := by
  cases r
  · exact (okT.of "in" (n := 2) (by decide +kernel)).mono (by decide)
  · exact (okT.of "out" (n := 3) (by decide +kernel)).mono (by decide)
  · exact (okT.of "wire" (n := 4) (by decide +kernel)).mono (by decide)
  · exact (okT.of "rest" (n := 4) (by decide +kernel)).mono (by decide)
  · exact (okT.of "let" (n := 3) (by decide +kernel)).mono (by decide)
  · exact (okT.of "use" (n := 3) (by decide +kernel)).mono (by decide)
  · exact (okT.of "table" (n := 5) (by decide +kernel)).mono (by decide)
  · exact (okT.of "memory" (n := 6) (by decide +kernel)).mono (by decide)
theorem row_cl {ps : List Str} (hp : ∀ z ∈ ps, nmS z) {r : Y.Row} (h : rowOk ps r) : cl r.d = true ∧ r.d.depth ≤ 20 := by
  have up : ∀ {ds : List PyData} {n : Nat}, n ≤ 19 → (∀ d ∈ ds, cl d = true ∧ d.depth ≤ n) → cl (.tuple ds) = true ∧ (PyData.tuple ds).depth ≤ 20 := fun hn h => ⟨(cl_tu h).1, by have := (cl_tu h).2; omega⟩
  have kw : ∀ z : Str, okT z 8 → cl (.str z) = true ∧ (PyData.str z).depth ≤ 10 := fun z hz => ⟨cl_str hz, Nat.zero_le _⟩
  have mono : ∀ {d : PyData} {m : Nat}, m ≤ 10 → (cl d = true ∧ d.depth ≤ m) → cl d = true ∧ d.depth ≤ 10 := fun hm h => ⟨h.1, by omega⟩
  rw [r_d]
  refine up (n := 10) (by decide) fun y hy => ?_
  rcases List.mem_cons.mp hy with rfl | hy
  · exact kw _ (rk_ok r)
  rcases List.mem_cons.mp hy with rfl | hy
  · cases r <;> exact cl_nm h.1
  have wd : ∀ {w : Wd}, wOk3 ps w → cl (wdD w) = true ∧ (wdD w).depth ≤ 10 := fun h => cl_wd hp h.ok (n := 9)
  have tm : ∀ {t : Trm}, t.ok ps ∧ t.deep ≤ 4 → cl t.d = true ∧ t.d.depth ≤ 10 := fun h => mono (by decide) (cl_trm hp h.1 h.2)
  cases r <;> simp only [rmore, List.mem_cons, List.not_mem_nil, or_false] at hy
  · rw [hy]; exact wd h.2
  · rw [hy]; exact wd h.2
  · rw [hy]; exact wd h.2
  · rcases hy with rfl | rfl | rfl
    · exact wd h.2.1
    · exact cl_int
    · exact tm h.2.2.2
  · rw [hy]; exact tm h.2
  · obtain ⟨_, h2, h3, h4⟩ := h
    rcases hy with rfl | rfl | rfl
    · exact cl_nm h2
    · refine mono (m := 3) (by decide) (cl_tu (n := 2) fun d hd => ?_)
      obtain ⟨w, hw, rfl⟩ := List.mem_map.mp hd
      exact cl_wd hp (h3 w hw).wOk (n := 1)
    · refine mono (m := 7) (by decide) (cl_tu (n := 6) fun d hd => ?_)
      obtain ⟨t, ht, rfl⟩ := List.mem_map.mp hd
      exact cl_trm hp (h4 t ht).1 (h4 t ht).2
  · rcases hy with rfl | rfl
    · exact wd h.2.1
    · refine mono (m := 1) (by decide) (cl_tu (n := 0) fun d hd => ?_)
      obtain ⟨w, hw, rfl⟩ := List.mem_map.mp hd
      exact cl_int
  · obtain ⟨_, h2, _, h4, h5, h6⟩ := h
    rcases hy with rfl | rfl | rfl | rfl | rfl
    · exact wd h2
    · exact cl_int
    · exact tm h4
    · exact tm h5
    · exact tm h6
theorem PartAt.dp {H : Hp} {v : V} {pt : Y.Part} (h : PartAt H v pt) : Dp K H v pt.d := by
  obtain ⟨a, pa, ra, o, rs, rfl, h1, h2, _, h4, h5⟩ := h
  exact .tup (st_of h1) (.cons (.str _) (.cons (.tup (fst_of h2) (TuAll.strs pt.params).dp) (.cons (.tup (st_of h4) h5.dp) .nil)))
theorem PtAll.dp {H : Hp} : ∀ {xs : List V} {y : Yard}, PtAll H xs y → DpAll K H xs (y.map Y.Part.d)
  | [], [], _ => .nil
  | [], _ :: _, h => by cases h.1
  | _ :: _, [], h => by cases h.1
  | x :: xs, pt :: y, h => .cons (h.2 0 x pt rfl rfl).dp (PtAll.dp ⟨Nat.succ.inj h.1, fun i v p hv hp => h.2 (i + 1) v p hv hp⟩)
theorem part_cl {pt : Y.Part} (h : PU pt) : cl pt.d = true ∧ pt.d.depth ≤ 40 := by
  refine ⟨?_, ?_⟩
  all_goals
    have := cl_tu (ds := [.str pt.name, .tuple (pt.params.map PyData.str), .tuple (pt.rows.map Y.Row.d)]) (n := 21) fun d hd => by
      simp only [List.mem_cons, List.not_mem_nil, or_false] at hd
      rcases hd with rfl | rfl | rfl
      · exact cl_nm h.nm
      · have := cl_tu (ds := pt.params.map PyData.str) (n := 0) fun d hd => by
          obtain ⟨z, hz, rfl⟩ := List.mem_map.mp hd
          exact cl_nm (h.pn z hz)
        exact ⟨this.1, by omega⟩
      · refine cl_tu (ds := pt.rows.map Y.Row.d) (n := 20) fun d hd => ?_
        obtain ⟨r, hr, rfl⟩ := List.mem_map.mp hd
        exact h.rc r hr
  · exact this.1
  · have h2 := this.2
    show PyData.depth (.tuple _) ≤ 40
    exact Nat.le_trans h2 (by decide)
theorem ex_none {H H' : Hp} {p : Addr} (e : Ex H H') (h : H' p = none) : H p = none := But.fresh (But.ex e (B := [])) h (by simp)
theorem but_fresh {H H' : Hp} {d : Addr} {B : List Addr} (b : But B H H') (f : ∀ x ∈ B, x = d ∨ H x = none) : But [d] H H' := fun x o hx e => b x o (fun hm => by
  rcases f x hm with h | h
  · exact hx (by rw [h]; simp)
  · rw [e] at h
    cases h) e
theorem some_ne {H : Hp} {x y : Addr} {o : HO} (h : H x = some o) (n : H y = none) : x ≠ y := fun z => by
  rw [z, n] at h
  cases h
theorem PtAll.bu {H H' : Hp} {xs : List V} {y : Yard} {B : List Addr} (h : PtAll H xs y) (b : But B H H') (l : ∀ p ∈ B, ∃ xs, H p = some (.lst xs)) : PtAll H' xs y := ⟨h.1, fun i v pt hv hp => (h.2 i v pt hv hp).bu b l⟩
theorem En.put {H H' : Hp} {d a hs h0 h1 : Addr} {ns : List Int} {k : Nat} {ws : Wl} {ss : Sl} {ps : List Str} {B : List Addr} (E : En K H d a hs h0 h1 ns k ws ss ps) (b : But B H H') (n : d ∉ B ∧ h0 ∉ B ∧ h1 ∉ B) (s : ∀ x ∈ B, Sep K a x (ns.map V.int)) (tk : Tk H H') : En K H' d a hs h0 h1 ns k ws ss ps :=
  ⟨E.dr.bu n.1 s b, tk _ _ E.has, wl_tk E.wl b n.2.1 tk, sl_tk E.sl b n.2.2 tk, E.n0, E.n1, E.n2, E.s0, E.s1, E.okl, E.oks, E.hps⟩
theorem wsH_ok {ps : List Str} {hds : List Hd} (h : ∀ x ∈ hds, x.ok ps) (l : hds.length ≤ 7) : wlOk ps (wsH hds) := by
  refine ⟨fun p hp => ?_, ?_⟩
  · obtain ⟨y, hy, rfl⟩ := List.mem_map.mp hp
    have := h y (List.mem_filter.mp hy).1
    exact ⟨this.1, Nat.le_refl _, this.2.1.ok⟩
  · unfold wsH
    rw [List.length_map]
    have := List.length_filter_le Hd.isW hds
    omega
theorem ssH_ok {ps : List Str} {hds : List Hd} (h : ∀ x ∈ hds, x.ok ps) (l : hds.length ≤ 7) : slOk ps (ssH hds) := by
  refine ⟨fun p hp => ?_, ?_⟩
  · obtain ⟨y, hy, rfl⟩ := List.mem_map.mp hp
    have := h y (List.mem_filter.mp hy).1
    exact ⟨this.1, this.2.1⟩
  · unfold ssH
    rw [List.length_map]
    have := List.length_filter_le (fun h : Hd => !h.isW) hds
    omega
/-- kinds of steps -/
def kt : Option Bool → Str
  | some b => stp b
  | none => Str.ofString "use"
theorem rep_map (m : Nat) (o : Option Bool) : (List.replicate m [V.str (kt o)]).flatten = (List.replicate m o).map fun o => V.str (kt o) := by
  induction m with
  | zero => rfl
  | succ m ih => rw [List.replicate_succ, List.replicate_succ, List.flatten_cons, ih] <;> rfl
theorem ord_snoc {W0 : List Str} {sts : List St} {s : St} (h : OrdOk W0 sts) (hs : ∀ n ∈ s.asks, n ∈ W0 ++ sts.flatMap St.words) : OrdOk W0 (sts ++ [s]) := fun i s' hi n hn => by
  by_cases hl : i < sts.length
  · rw [List.getElem?_append_left hl] at hi
    rw [List.take_append_of_le_length (by omega)]
    exact h i s' hi n hn
  · rw [List.getElem?_append_right (by omega)] at hi
    have h0 : i - sts.length = 0 := by
      cases hh : i - sts.length with
      | zero => rfl
      | succ m => rw [hh] at hi; simp at hi
    rw [h0] at hi
    cases hi
    have : i = sts.length := by omega
    rw [this, List.take_left]
    exact hs n hn
theorem wsN_app (a b : Wl) : wsN (a ++ b) = wsN a ++ wsN b := by
  unfold wsN
  rw [List.flatMap_append]
theorem wsN_outs {es : Wl} {own : Str} {os : List Str} (h : es.map Prod.fst = os.map (Trm.of_ own)) : wsN es = os.map fun o => own ++ Str.ofString "." ++ o := by
  have : wsN es = (es.map Prod.fst).flatMap Trm.names := by
    unfold wsN
    rw [List.flatMap_map]
  rw [this, h, List.flatMap_map]
  show os.flatMap (fun o => [own ++ Str.ofString "." ++ o]) = _
  clear this h
  induction os with
  | nil => rfl
  | cons o os ih => rw [List.flatMap_cons, ih] <;> rfl
theorem kt_some (b : Bool) : decide (V.str (kt (some b)) = V.str (Str.ofString "use")) = false := by cases b <;> decide +kernel
theorem kw_dec {a b : Str} (h : decide (a = b) = false) : decide (V.str a = V.str b) = false := decide_eq_false fun z => by
  injection z with z
  exact absurd z (of_decide_eq_false h)
theorem cutv_take (r : List V) (i : Nat) : cutV r none (some (i : Int)) = r.take i := by
  unfold cutV
  rw [HT.sIx_none, HT.sIx_nat, List.drop_zero, Nat.sub_zero]
  by_cases h : i ≤ r.length
  · rw [Nat.min_eq_left h]
  · rw [Nat.min_eq_right (by omega), List.take_of_length_le (Nat.le_refl _), List.take_of_length_le (by omega)]
theorem cutv_drop (r : List V) (i : Nat) : cutV r (some (i : Int)) none = r.drop i := by
  unfold cutV
  rw [HT.sIx_none, HT.sIx_nat, List.take_of_length_le (by rw [List.length_drop]; exact Nat.le_refl _)]
  by_cases h : i ≤ r.length
  · rw [Nat.min_eq_left h]
  · rw [Nat.min_eq_right (by omega), List.drop_of_length_le (Nat.le_refl _), List.drop_of_length_le (by omega)]
theorem rows_pos {sts : List St} (h : 1 ≤ sts.length) (hr : List Y.Row) : 0 < (sts.flatMap St.rows ++ hr).length := by
  cases sts with
  | nil => exact absurd h (by decide)
  | cons s r =>
    rw [List.flatMap_cons, List.length_append, List.length_append]
    have : 0 < s.rows.length := by cases s <;> exact Nat.succ_pos _
    omega
theorem vr_L_part (vs H Q E) (h : sp_L_part K vs H Q E) : (rd_L_part K) { nx := fun _ H' => Q .non H', rt := Q } (start ["_law_draw", "_law_parts", "_law_name", "_law_params", "_law_names_here", "_law_has", "_law_heads_here", "_law_rows", "_law_number", "_law_steps", "_law_step", "_law_own", "_law_row", "_law_place", "_law_word_here", "_law_turn"] vs) H := by
  obtain ⟨d, a, pl, p, nl0, ns, k, ps, zs, nm, yd, rfl, ⟨hd, hk⟩, ⟨⟨ys, hys, hyd⟩, oky, npl, lyd⟩, nmn, ⟨hp, npd⟩, ⟨hnl, lz, nz⟩, q⟩ := h
  unfold rd_L_part
  walk_at "zz"
  refine ⟨szl (by simp), fun h0 f0 => ?_⟩
  have e0 := Ex.new (o := .lst []) f0
  have g0 : upd H h0 (.lst []) h0 = some (.lst []) := upd_same
  generalize upd H h0 _ = H1 at e0 g0 ⊢
  walk_at "zz"
  refine ⟨szl (by simp), fun h1 f1 => ?_⟩
  have e1 := Ex.new (o := .lst []) f1
  have g1 : upd H1 h1 (.lst []) h1 = some (.lst []) := upd_same
  generalize upd H1 h1 _ = H2 at e1 g1 ⊢
  walk_at "zz"
  refine ⟨szl (by simp), fun hs fs => ?_⟩
  have e2 := Ex.new (o := .tup [.ref h0, .ref h1]) fs
  have gs : upd H2 hs (.tup [.ref h0, .ref h1]) hs = some (.tup [.ref h0, .ref h1]) := upd_same
  generalize upd H2 hs _ = H3 at e2 gs ⊢
  have e03 := (e0.trans e1).trans e2
  walk_at "zz"
  refine ⟨_, _, rfl, .inl (sq_of (e03 _ _ hnl)), fun nl fn => ?_⟩
  have e3 := Ex.new (o := .lst (zs.map V.str)) fn
  have gn : upd H3 nl (.lst (zs.map V.str)) nl = some (.lst (zs.map V.str)) := upd_same
  generalize upd H3 nl _ = H4 at e3 gn ⊢
  have e04 := e03.trans e3
  have g0' := e3 _ _ (e2 _ _ (e1 _ _ g0))
  have g1' := e3 _ _ (e2 _ _ g1)
  have gs' := e3 _ _ gs
  have f1' := ex_none e0 f1
  have fs' := ex_none (e0.trans e1) fs
  have fn' := ex_none e03 fn
  have n01 : h0 ≠ h1 := some_ne g0 f1
  have n0s : h0 ≠ hs := some_ne (e1 _ _ g0) fs
  have n1s : h1 ≠ hs := some_ne g1 fs
  have n0n : h0 ≠ nl := some_ne (e2 _ _ (e1 _ _ g0)) fn
  have n1n : h1 ≠ nl := some_ne (e2 _ _ g1) fn
  have nsn : hs ≠ nl := some_ne gs fn
  have hp4 : PsL H4 p ps := ⟨e04 _ _ hp.1, hp.2⟩
  have s0 := sep_new hd.2 f0
  have s1 := sep_new hd.2 f1'
  have sn := sep_new hd.2 fn'
  walk_at "zz"
  refine ⟨d, a, nl, p, hs, h0, h1, ns, k, zs, ps, rfl, ⟨hd.ex e04, by omega⟩, ⟨gn, by omega, nz⟩, hp4, ⟨gs', g0', g1'⟩, ⟨some_ne hp.1 fn', npd, n01, some_ne hp.1 f0, some_ne hp.1 f1'⟩, ⟨sn, s0, s1⟩, fun r H5 hds k5 us5 fr gr tr okh lh gn5 xh hd5 hk5 wl5 sl5 b5 => ?_⟩
  have fr' := ex_none e04 fr
  have dH := hd.1
  have bb5 : But [d] H H5 := but_fresh (B := [d, nl, h0, h1]) ((But.ex e04).trans b5) (fun x hx => by
    simp only [List.mem_cons, List.not_mem_nil, or_false] at hx
    rcases hx with rfl | rfl | rfl | rfl
    · exact .inl rfl
    · exact .inr fn'
    · exact .inr f0
    · exact .inr f1')
  have nd0 : d ≠ h0 := some_ne dH f0
  have nd1 : d ≠ h1 := some_ne dH f1'
  have nds : d ≠ hs := some_ne dH fs'
  have ndn : d ≠ nl := some_ne dH fn'
  have E5 : En K H5 d a hs h0 h1 ns k5 (wsH hds) (ssH hds) ps := ⟨hd5, b5 _ _ (by simp [nds.symm, n0s.symm, n1s.symm, nsn]) gs', wl5, sl5, nd0, nd1, n01, s0, s1, wsH_ok okh lh, ssH_ok okh lh, hp.2.2⟩
  have nr : ∀ {x : Addr} {o : HO}, H4 x = some o → x ≠ r := fun h => some_ne h fr
  have nrd : d ≠ r := nr (e04 _ _ dH)
  have nr0 := nr g0'
  have nr1 := nr g1'
  have nrn := nr gn
  clear e0 g0 e1 g1 e2 gs e3 gn f1 fs fn e03 g0' g1' gs' wl5 sl5 b5 hd5 hp4 nr
  walk_at "zz"
  refine ⟨szl (by simp), fun R fR => ?_⟩
  have R0 : H R = none := But.fresh bb5 fR (fun z => by
    rw [List.mem_singleton.mp z, E5.dr.1] at fR
    cases fR)
  have nRd : d ≠ R := some_ne dH R0
  have nRr : r ≠ R := some_ne gr fR
  have nRn : nl ≠ R := some_ne gn5 fR
  obtain ⟨_, gh0, _⟩ := id E5.wl
  have nR0 : h0 ≠ R := some_ne gh0 fR
  obtain ⟨_, gh1, _⟩ := id E5.sl
  have nR1 : h1 ≠ R := some_ne gh1 fR
  have sR := sep_new hd.2 R0
  have eR := Ex.new (o := .lst []) fR
  have gR : upd H5 R (.lst []) R = some (.lst []) := upd_same
  have E6 := E5.ex eR
  have gr6 := eR _ _ gr
  have tr6 := tr.ex eR
  have gn6 := eR _ _ gn5
  have bb6 := bb5.trans (But.ex eR)
  generalize upd H5 R _ = H6 at eR gR E6 gr6 tr6 gn6 bb6 ⊢
  clear E5 gr tr gn5 bb5 eR gh0 gh1
  walk_at "zz"
  refine ⟨d, a, ns, k5, rfl, E6.dr, by omega, fun i H7 i0 i1 hd7 b7 => ?_⟩
  have E7 := E6.bu b7 hd7
  have gR7 := b7 _ _ (by simp [nRd.symm]) gR
  have gr7 := b7 _ _ (by simp [nrd.symm]) gr6
  have tr7 := tr6.mono (E6.dr.tk b7)
  have gn7 := b7 _ _ (by simp [ndn.symm]) gn6
  have bb7 := bb6.trans b7
  clear E6 gR gr6 tr6 gn6 bb6 b7 hd7
  walk_at "zz"
  refine ⟨szl (by simp), fun w1 fw1 => ?_⟩
  have x1 := Ex.new (o := .lst [V.str (Str.ofString "wire")]) fw1
  have y1 : upd H7 w1 (.lst [V.str (Str.ofString "wire")]) w1 = _ := upd_same
  generalize upd H7 w1 _ = Ha at x1 y1 ⊢
  walk_at "zz"
  refine ⟨szl (by simp), fun w2 fw2 => ?_⟩
  have x2 := Ex.new (o := .lst [V.int 0, V.int 1, V.int 1, V.int 2]) fw2
  have y2 : upd Ha w2 (.lst [V.int 0, V.int 1, V.int 1, V.int 2]) w2 = _ := upd_same
  generalize upd Ha w2 _ = Hb at x2 y2 ⊢
  walk_at "zz"
  obtain ⟨c1, hc1, mc1⟩ := at_ints (l := [0, 1, 1, 2]) (i := i % 4) (by omega) (by show i % 4 < 4; omega)
  refine z_ixL (sq_of y2) hc1 ?_
  have bc1 : 0 ≤ c1 ∧ c1 ≤ 2 := by
    simp only [List.mem_cons, List.not_mem_nil, or_false] at mc1
    omega
  walk_at "zz"
  refine z_rep (x2 _ _ y1) (by omega) (by omega) (szl (by show 1 * c1.toNat ≤ 1000; omega)) fun w3 fw3 => ?_
  have x3 := Ex.new (o := .lst (List.replicate c1.toNat [V.str (Str.ofString "wire")]).flatten) fw3
  have y3 : upd Hb w3 (.lst (List.replicate c1.toNat [V.str (Str.ofString "wire")]).flatten) w3 = some (.lst ((List.replicate c1.toNat (some true)).map fun o => V.str (kt o))) := by
    rw [upd_same]
    exact congrArg (fun z => some (HO.lst z)) (rep_map c1.toNat (some true))
  generalize hL1 : List.replicate c1.toNat (some true : Option Bool) = L1 at y3
  have lL1 : L1.length ≤ 2 := by rw [← hL1, List.length_replicate]; omega
  have mL1 : ∀ o ∈ L1, o = some true := fun o ho => by
    rw [← hL1] at ho
    exact (List.mem_replicate.mp ho).2
  generalize upd Hb w3 _ = Hc at x3 y3 ⊢
  clear hL1 mc1 hc1 y1
  walk_at "zz"
  refine ⟨szl (by simp), fun w4 fw4 => ?_⟩
  have x4 := Ex.new (o := .lst [V.str (Str.ofString "use")]) fw4
  have y4 : upd Hc w4 (.lst [V.str (Str.ofString "use")]) w4 = _ := upd_same
  generalize upd Hc w4 _ = Hd_ at x4 y4 ⊢
  walk_at "zz"
  refine ⟨szl (by simp), fun w5 fw5 => ?_⟩
  have x5 := Ex.new (o := .lst [V.int 1, V.int 1, V.int 0, V.int 1, V.int 2]) fw5
  have y5 : upd Hd_ w5 (.lst [V.int 1, V.int 1, V.int 0, V.int 1, V.int 2]) w5 = _ := upd_same
  generalize upd Hd_ w5 _ = He_ at x5 y5 ⊢
  walk_at "zz"
  obtain ⟨c2, hc2, mc2⟩ := at_ints (l := [1, 1, 0, 1, 2]) (i := i / 4 % 5) (by omega) (by show i / 4 % 5 < 5; omega)
  refine z_ixL (sq_of y5) hc2 ?_
  have bc2 : 0 ≤ c2 ∧ c2 ≤ 2 := by
    simp only [List.mem_cons, List.not_mem_nil, or_false] at mc2
    omega
  walk_at "zz"
  refine ⟨szl (by simp), fun w6 fw6 => ?_⟩
  have xa : Ex H7 He_ := (((x1.trans x2).trans x3).trans x4).trans x5
  have bbE := bb7.trans (But.ex xa)
  have onlyd : ∀ x ∈ [d], ∃ xs, H x = some (.lst xs) := fun x hx => by
    rw [List.mem_singleton.mp hx]
    exact ⟨_, dH⟩
  have ptsE := hyd.bu bbE onlyd
  have hysE := bbE _ _ (by simp [npl]) hys
  have x6 := Ex.new (o := .lst []) fw6
  have clp := cl_all (f := Y.Part.d) fun pt hpt => part_cl (oky pt hpt)
  refine z_neNil (sq_of (x6 _ _ hysE)) (ptsE.bu (B := []) (But.ex x6) (fun _ h => by cases h)).dp (sq_of upd_same) clp.1 (by have := clp.2; omega) ?_
  generalize upd He_ w6 _ = Hf at x6 ⊢
  walk_at "zz"
  generalize hb : (!ys.isEmpty) = b0
  have yd0 : b0 = true → yd ≠ [] := fun z e => by
    have := hyd.1
    rw [e] at this
    rw [← hb] at z
    cases ys with
    | nil => cases z
    | cons _ _ => cases this
  clear hb
  have bc3 : 0 ≤ c2 * (if b0 = true then 1 else 0) ∧ c2 * (if b0 = true then 1 else 0) ≤ 2 := by split <;> omega
  have bc4 : c2 * (if b0 = true then 1 else 0) ≠ 0 → yd ≠ [] := fun z => yd0 (by
    by_cases h : b0 = true
    · exact h
    · rw [if_neg h] at z
      omega)
  generalize c2 * (if b0 = true then 1 else 0) = c3 at bc3 bc4 ⊢
  refine z_rep ((x5.trans x6) _ _ y4) (by omega) (by omega) (szl (by show 1 * c3.toNat ≤ 1000; omega)) fun w7 fw7 => ?_
  have x7 := Ex.new (o := .lst (List.replicate c3.toNat [V.str (Str.ofString "use")]).flatten) fw7
  have y7 : upd Hf w7 (.lst (List.replicate c3.toNat [V.str (Str.ofString "use")]).flatten) w7 = some (.lst ((List.replicate c3.toNat none).map fun o => V.str (kt o))) := by
    rw [upd_same]
    exact congrArg (fun z => some (HO.lst z)) (rep_map c3.toNat none)
  generalize hL2 : List.replicate c3.toNat (none : Option Bool) = L2 at y7
  have lL2 : L2.length ≤ 2 := by rw [← hL2, List.length_replicate]; omega
  have mL2 : ∀ o ∈ L2, yd ≠ [] := fun o ho => by
    rw [← hL2] at ho
    have := (List.mem_replicate.mp ho).1
    exact bc4 (by omega)
  generalize upd Hf w7 _ = Hg at x7 y7 ⊢
  walk_at "zz"
  refine z_cat ((((x4.trans x5).trans x6).trans x7) _ _ y3) y7 (szl (by rw [List.length_map, List.length_map]; omega)) fun S fS => ?_
  have x8 := Ex.new (o := .lst (L1.map (fun o => V.str (kt o)) ++ L2.map (fun o => V.str (kt o)))) fS
  have gS : upd Hg S (.lst (L1.map (fun o => V.str (kt o)) ++ L2.map (fun o => V.str (kt o)))) S = some (.lst ((L1 ++ L2).map (fun o => V.str (kt o)))) := by
    rw [upd_same, List.map_append]
  have xb : Ex H7 _ := ((xa.trans x6).trans x7).trans x8
  have E8 := E7.ex xb
  have gR8 := xb _ _ gR7
  have gr8 := xb _ _ gr7
  have tr8 := tr7.ex xb
  have gn8 := xb _ _ gn7
  have bb8 := bb7.trans (But.ex xb)
  have S0 : H S = none := But.fresh bb7 (ex_none ((xa.trans x6).trans x7) fS) (fun z => by
    have := ex_none ((xa.trans x6).trans x7) fS
    rw [List.mem_singleton.mp z, E7.dr.1] at this
    cases this)
  have nS : ∀ {x : Addr} {o : HO}, H7 x = some o → x ≠ S := fun h => some_ne (((xa.trans x6).trans x7) _ _ h) fS
  have nSR := nS gR7
  have nSr := nS gr7
  have nSn := nS gn7
  have nSd : d ≠ S := some_ne dH S0
  obtain ⟨_, gh0, _⟩ := id E7.wl
  obtain ⟨_, gh1, _⟩ := id E7.sl
  have nS0 := nS gh0
  have nS1 := nS gh1
  have mL : ∀ o ∈ L1 ++ L2, o = none → yd ≠ [] := fun o ho z => by
    rcases List.mem_append.mp ho with h | h
    · rw [mL1 o h] at z
      cases z
    · exact mL2 o h
  have lL : (L1 ++ L2).length ≤ 4 := by rw [List.length_append]; omega
  have cL : (L1 ++ L2).countP Option.isNone ≤ 2 := by
    have h1 : L1.countP Option.isNone = 0 := List.countP_eq_zero.mpr fun o ho => by rw [mL1 o ho]; decide
    have h2 := List.countP_le_length (p := Option.isNone) (l := L2)
    rw [List.countP_append]
    omega
  generalize L1 ++ L2 = L at gS mL lL cL
  generalize upd Hg S _ = H8 at x8 gS xb E8 gR8 gr8 tr8 gn8 bb8 ⊢
  clear E7 gR7 gr7 tr7 gn7 bb7 x1 x2 x3 x4 x5 x6 x7 x8 xa xb y2 y3 y4 y5 y7 mL1 mL2 lL1 lL2 gh0 gh1 nS ptsE hysE bbE hc2 mc2 bc1 bc2 bc3 bc4 hL2 yd0
  walk_at "zz"
  refine z_cut (fun σ' H' => ∃ L' : List (Option Bool), σ' = [some (.ref d), some (.ref pl), some (.str nm), some (.ref p), some (.ref nl), some (.ref hs), some (.ref r), some (.ref R), some (.int i), some (.ref S), none, none, none, none, none, none] ∧ H' S = some (.lst (L'.map fun o => V.str (kt o))) ∧ (∀ o ∈ L', o = none → yd ≠ []) ∧ (L'.length ≤ 4 ∧ L'.countP Option.isNone ≤ 2) ∧ But [S] H8 H') ?_ (fun σ' H9 hmid => ?_)
  · walk_at "zz"
    refine ite_b (fun _ => ?_) (fun _ => z_next ⟨L, rfl, gS, mL, ⟨lL, cL⟩, But.refl⟩)
    walk_at "zz"
    refine z_tyl (sq_of gS) ?_
    refine ⟨S, _, rfl, rfl, gS, L.reverse, rfl, by rw [upd_same, ← List.map_reverse], fun o ho => mL o (List.mem_reverse.mp ho), ⟨by rw [List.length_reverse]; exact lL, by rw [List.countP_reverse]; exact cL⟩, But.put (by simp)⟩
  obtain ⟨L', rfl, gS9, mL', ⟨lL', cL'⟩, b9⟩ := hmid
  have tk9 : Tk H8 H9 := .but b9 fun x hx => by
    rw [List.mem_singleton.mp hx]
    exact ⟨_, gS⟩
  have E9 := E8.put b9 ⟨by simp [nSd], by simp [nS0], by simp [nS1]⟩ (fun x hx => by rw [List.mem_singleton.mp hx]; exact sep_new hd.2 S0) tk9
  have gR9 := b9 _ _ (by simp [nSR]) gR8
  have gr9 := b9 _ _ (by simp [nSr]) gr8
  have tr9 := tr8.mono tk9
  have gn9 := b9 _ _ (by simp [nSn]) gn8
  have bb9 : But [d] H H9 := but_fresh (B := [d, S]) ((bb8.mono (by simp)).trans (b9.mono (by simp))) (fun x hx => by
    simp only [List.mem_cons, List.not_mem_nil, or_false] at hx
    rcases hx with rfl | rfl
    · exact .inl rfl
    · exact .inr S0)
  clear tk9 E8 gR8 gr8 tr8 gn8 bb8 b9 mL lL cL gS
  walk_at "zz"
  refine ⟨szl (by simp), fun o1 fo1 => ?_⟩
  have x1 := Ex.new (o := .lst [V.str (Str.ofString "out")]) fo1
  have y1 : upd H9 o1 (.lst [V.str (Str.ofString "out")]) o1 = _ := upd_same
  generalize upd H9 o1 _ = Ha at x1 y1 ⊢
  walk_at "zz"
  refine ⟨szl (by simp), fun o2 fo2 => ?_⟩
  have x2 := Ex.new (o := .lst [V.int 1, V.int 1, V.int 2]) fo2
  have y2 : upd Ha o2 (.lst [V.int 1, V.int 1, V.int 2]) o2 = _ := upd_same
  generalize upd Ha o2 _ = Hb at x2 y2 ⊢
  walk_at "zz"
  obtain ⟨c1, hc1, mc1⟩ := at_ints (l := [1, 1, 2]) (i := i / 40 % 3) (by omega) (by show i / 40 % 3 < 3; omega)
  refine z_ixL (sq_of y2) hc1 ?_
  have bc1 : 1 ≤ c1 ∧ c1 ≤ 2 := by
    simp only [List.mem_cons, List.not_mem_nil, or_false] at mc1
    omega
  walk_at "zz"
  refine z_rep (x2 _ _ y1) (by omega) (by omega) (szl (by show 1 * c1.toNat ≤ 1000; omega)) fun o3 fo3 => ?_
  have x3 := Ex.new (o := .lst (List.replicate c1.toNat [V.str (Str.ofString "out")]).flatten) fo3
  have y3 : upd Hb o3 (.lst (List.replicate c1.toNat [V.str (Str.ofString "out")]).flatten) o3 = some (.lst ((List.replicate c1.toNat (some false)).map fun o => V.str (kt o))) := by
    rw [upd_same]
    exact congrArg (fun z => some (HO.lst z)) (rep_map c1.toNat (some false))
  generalize hL1 : List.replicate c1.toNat (some false : Option Bool) = L1 at y3
  have lL1 : 1 ≤ L1.length ∧ L1.length ≤ 2 := by rw [← hL1, List.length_replicate]; omega
  have mL1 : ∀ o ∈ L1, o = some false := fun o ho => by
    rw [← hL1] at ho
    exact (List.mem_replicate.mp ho).2
  generalize upd Hb o3 _ = Hc at x3 y3 ⊢
  clear hL1 mc1 hc1 y1
  walk_at "zz"
  have x123 := (x1.trans x2).trans x3
  refine z_cat (x123 _ _ gS9) y3 (szl (by rw [List.length_map, List.length_map]; omega)) fun S2 fS2 => ?_
  have x4 := Ex.new (o := .lst (L'.map (fun o => V.str (kt o)) ++ L1.map (fun o => V.str (kt o)))) fS2
  have gS2 : upd Hc S2 (.lst (L'.map (fun o => V.str (kt o)) ++ L1.map (fun o => V.str (kt o)))) S2 = some (.lst ((L' ++ L1).map (fun o => V.str (kt o)))) := by
    rw [upd_same, List.map_append]
  have xb := x123.trans x4
  have E10 := E9.ex xb
  have gR10 := xb _ _ gR9
  have gr10 := xb _ _ gr9
  have tr10 := tr9.ex xb
  have gn10 := xb _ _ gn9
  have bb10 := bb9.trans (But.ex xb)
  have f9 := ex_none x123 fS2
  have S20 : H S2 = none := But.fresh bb9 f9 (fun z => by
    have := f9
    rw [List.mem_singleton.mp z, E9.dr.1] at this
    cases this)
  have nS : ∀ {x : Addr} {o : HO}, H9 x = some o → x ≠ S2 := fun h => some_ne h f9
  have nTR := nS gR9
  have nTr := nS gr9
  have nTn := nS gn9
  have nTd : d ≠ S2 := some_ne dH S20
  obtain ⟨_, gh0, _⟩ := id E9.wl
  have nT0 := nS gh0
  have mM : ∀ o ∈ L' ++ L1, o = none → yd ≠ [] := fun o ho z => by
    rcases List.mem_append.mp ho with h | h
    · exact mL' o h z
    · rw [mL1 o h] at z
      cases z
  have lM : 1 ≤ (L' ++ L1).length ∧ (L' ++ L1).length ≤ 6 := by rw [List.length_append]; omega
  have cM : (L' ++ L1).countP Option.isNone ≤ 2 := by
    have h1 : L1.countP Option.isNone = 0 := List.countP_eq_zero.mpr fun o ho => by rw [mL1 o ho]; decide
    rw [List.countP_append]
    omega
  generalize L' ++ L1 = M at gS2 mM lM cM
  generalize upd Hc S2 _ = HA at x4 gS2 xb E10 gR10 gr10 tr10 gn10 bb10 ⊢
  clear E9 gR9 gr9 tr9 gn9 bb9 x1 x2 x3 x4 x123 xb y2 y3 mL' mL1 lL1 lL' cL' gS9 gh0 nS f9 bc1 nSR nSr nSn nSd nS0 nS1
  have psA : PsL HA p ps := hp.bu (by simp [npd]) bb10
  have np3 : p ∉ [d, nl, h0, R] := by simp [npd, some_ne hp.1 fn', some_ne hp.1 f0, some_ne hp.1 R0]
  have npl3 : pl ∉ [d, nl, h0, R] := by simp [npl, some_ne hys fn', some_ne hys f0, some_ne hys R0]
  have hysA := bb10 _ _ (by simp [npl]) hys
  have ptsA := hyd.bu bb10 onlyd
  have lstA : ∀ x ∈ [d, nl, h0, R], ∃ xs, HA x = some (.lst xs) := fun x hx => by
    simp only [List.mem_cons, List.not_mem_nil, or_false] at hx
    rcases hx with rfl | rfl | rfl | rfl
    · exact ⟨_, E10.dr.1⟩
    · exact ⟨_, gn10⟩
    · obtain ⟨xs, h, _⟩ := E10.wl
      exact ⟨xs, h⟩
    · exact ⟨_, gR10⟩
  walk_at "zz"
  refine z_FL (sq_of gS2) (fun j σ' H' => ∃ (y10 y11 : Option V) (sts : List St) (ws : Wl) (k' : Nat) (us : List V), σ' = [some (.ref d), some (.ref pl), some (.str nm), some (.ref p), some (.ref nl), some (.ref hs), some (.ref r), some (.ref R), some (.int i), some (.ref S), y10, y11, none, none, none, none] ∧ H' R = some (.lst us) ∧ TuAll H' us ((sts.flatMap St.rows).map Y.Row.d) ∧ us.length ≤ 2 * j ∧ (sts.length = j ∧ (sts.filter St.isU).length ≤ (M.take j).countP Option.isNone) ∧ H' nl = some (.lst ((zs.drop (hds.length + j)).map V.str)) ∧ sts.map St.x = (zs.drop hds.length).take j ∧ (∀ s ∈ sts, s.ok yd ps) ∧ OrdOk (wsN (wsH hds)) sts ∧ wsN ws = wsN (wsH hds) ++ sts.flatMap St.words ∧ ws.length ≤ 7 + 6 * j ∧ En K H' d a hs h0 h1 ns k' ws (ssH hds) ps ∧ k' ≤ k + 13 + 1500 * j ∧ But [d, nl, h0, R] HA H') ⟨_, _, [], wsH hds, k5 + 1, [], rfl, gR10, .nil, by simp, ⟨rfl, Nat.zero_le _⟩, gn10, rfl, (fun _ h => by cases h), (fun i s h => by simp at h), by simp, ?_, E10, by omega, But.refl⟩ (fun j σ' H' hj h => ?_) (fun j x σ' H' hj hx h => ?_) (fun σ' HB h => ?_)
  · unfold wsH
    rw [List.length_map]
    have := List.length_filter_le Hd.isW hds
    omega
  · obtain ⟨_, _, _, _, _, _, _, _, _, _, _, _, _, _, _, _, _, _, _, b⟩ := h
    exact sq_of (b _ _ (by simp [nTd.symm, nTn.symm, nT0.symm, nTR.symm]) gS2)
  · obtain ⟨y10, y11, sts, ws, k', us, rfl, gRj, tus, lus, ⟨ls, cu⟩, gnj, xs_, sok, ord, wW, lw, E, hk', b⟩ := h
    rw [List.length_map] at hj
    rw [List.getElem?_map] at hx
    obtain ⟨o, ho, rfl⟩ := Option.map_eq_some_iff.mp hx
    walk_at "zz"
    refine z_tyl (sq_of gnj) ?_
    walk_at "zz"
    refine z_pop0 gnj (by omega) fun own hown => ?_
    have tkB : Tk H' (upd H' nl (.lst ((zs.drop (hds.length + j + 1)).map V.str))) := .putL gnj
    have b1 : But [nl] H' (upd H' nl (.lst ((zs.drop (hds.length + j + 1)).map V.str))) := But.put (by simp)
    have EB := E.put b1 ⟨by simp [ndn], by simp [n0n], by simp [n1n]⟩ (fun x hx => by rw [List.mem_singleton.mp hx]; exact sn) tkB
    have gRB := b1 _ _ (by simp [nRn.symm]) gRj
    have tusB := tus.mono tkB
    have gnB : upd H' nl (.lst ((zs.drop (hds.length + j + 1)).map V.str)) nl = _ := upd_same
    have bB := b.trans (b1.mono (by simp))
    generalize upd H' nl _ = HB at EB gRB tusB gnB bB ⊢
    clear E gRj tus gnj b tkB b1
    have nmo := nz own (List.mem_of_getElem? hown)
    have psB := psA.bu np3 bB
    have xo : (zs.drop hds.length)[j]? = some own := by rw [List.getElem?_drop]; exact hown
    cases o with
    | none =>
      walk_at "zz"
      rw [show decide (V.str (kt none) = V.str (Str.ofString "use")) = true from decide_eq_true rfl]
      refine ite_t ?_
      walk_at "zz"
      refine z_tyl (sq_of gRB) ?_
      walk_at "zz"
      refine ⟨d, a, pl, p, hs, h0, h1, own, ns, k', ws, ssH hds, ps, yd, rfl, EB, by omega, nmo, by omega, psB, npd, ⟨⟨ys, bB _ _ npl3 hysA, ptsA.bu bB lstA⟩, mM none (List.mem_of_getElem? ho) rfl, oky, npl⟩, fun u HC pt uws ts es k2 mp lu oku okt lt mes tu EC hk2 bC => ?_⟩
      have gRC := bC _ _ (by simp [nRd.symm, nR0.symm]) gRB
      walk_at "zz"
      refine z_rapp gRC (szlt (by omega)) ?_
      have bD : But [R] HC (upd HC R (.lst (us ++ [u]))) := But.put (by simp)
      have tkC : Tk HC (upd HC R (.lst (us ++ [u]))) := .putL gRC
      have tkBC : Tk HB HC := .but bC fun x hx => by
        simp only [List.mem_cons, List.not_mem_nil, or_false] at hx
        rcases hx with rfl | rfl
        · exact ⟨_, EB.dr.1⟩
        · obtain ⟨xs, h, _⟩ := EB.wl
          exact ⟨xs, h⟩
      have les := congrArg List.length mes
      rw [List.length_map, List.length_map] at les
      have ldt := (oky pt mp).dt
      refine ⟨_, _, sts ++ [.us own pt uws ts], ws ++ es, k2, us ++ [u], rfl, upd_same, ?_, by simp; omega, ⟨by simp; omega, by rw [take_snoc ho, List.countP_append, List.filter_append, List.length_append]; exact Nat.add_le_add cu (Nat.le_refl 1)⟩, ?_, ?_, fun s hs => ?_, ord_snoc ord fun n hn => ?_, ?_, by rw [List.length_append]; omega, EC.put bD ⟨by simp [nRd], by simp [nR0], by simp [nR1]⟩ (fun x hx => by rw [List.mem_singleton.mp hx]; exact sR) tkC, by omega, (bB.trans (bC.mono (by simp))).trans (bD.mono (by simp))⟩
      · rw [List.flatMap_append, List.map_append]
        exact ((tusB.mono tkBC).mono tkC).app (.cons (tu.mono tkC) .nil)
      · exact bD _ _ (by simp [nRn]) (bC _ _ (by simp [ndn.symm, n0n.symm]) gnB)
      · rw [List.map_append, xs_, take_snoc xo] <;> rfl
      · rcases List.mem_append.mp hs with hs | hs
        · exact sok s hs
        · rw [List.mem_singleton.mp hs]
          exact ⟨mp, nmo, lu, oku, lt, fun t ht => ⟨(okt t ht).1, by have := (okt t ht).2.1; omega⟩⟩
      · obtain ⟨t, ht, hn⟩ := List.mem_flatMap.mp hn
        rw [← wW]
        exact (okt t ht).2.2 n hn
      · rw [wsN_app, wW, wsN_outs mes, List.flatMap_append, List.append_assoc]
        congr 2
        simp [St.words]
    | some b =>
      walk_at "zz"
      rw [kt_some]
      refine ite_f ?_
      walk_at "zz"
      refine z_tyl (sq_of gRB) ?_
      walk_at "zz"
      refine ⟨d, a, p, hs, h0, h1, b, own, ns, k', ws, ssH hds, ps, rfl, EB, by omega, nmo, by omega, psB, npd, fun r2 HC u1 u2 w t k2 fr2 gr2 tu1 tu2 okw3 okt EC hk2 bC => ?_⟩
      have gRC := bC _ _ (by simp [nRd.symm, nR0.symm]) gRB
      walk_at "zz"
      have bD : But [R] HC (upd HC R (.lst (us ++ [u1, u2]))) := But.put (by simp)
      have tkC : Tk HC (upd HC R (.lst (us ++ [u1, u2]))) := .putL gRC
      have tkBC : Tk HB HC := .but bC fun x hx => by
        simp only [List.mem_cons, List.not_mem_nil, or_false] at hx
        rcases hx with rfl | rfl
        · exact ⟨_, EB.dr.1⟩
        · obtain ⟨xs, h, _⟩ := EB.wl
          exact ⟨xs, h⟩
      refine ⟨R, r2, us, [u1, u2], rfl, rfl, gRC, gr2, szl (by simp; omega), _, _, sts ++ [.lt b own w t], ws ++ [(.name own, w)], k2, us ++ [u1, u2], rfl, upd_same, ?_, by simp; omega, ⟨by simp; omega, by rw [take_snoc ho, List.countP_append, List.filter_append, List.length_append]; exact Nat.add_le_add cu (Nat.zero_le _)⟩, ?_, ?_, fun s hs => ?_, ord_snoc ord fun n hn => ?_, ?_, by rw [List.length_append, List.length_singleton]; omega, EC.put bD ⟨by simp [nRd], by simp [nR0], by simp [nR1]⟩ (fun x hx => by rw [List.mem_singleton.mp hx]; exact sR) tkC, by omega, (bB.trans (bC.mono (by simp))).trans (bD.mono (by simp))⟩
      · rw [List.flatMap_append, List.map_append]
        exact ((tusB.mono tkBC).mono tkC).app (.cons (tu1.mono tkC) (.cons (tu2.mono tkC) .nil))
      · exact bD _ _ (by simp [nRn]) (bC _ _ (by simp [ndn.symm, n0n.symm]) gnB)
      · rw [List.map_append, xs_, take_snoc xo] <;> rfl
      · rcases List.mem_append.mp hs with hs | hs
        · exact sok s hs
        · rw [List.mem_singleton.mp hs]
          exact ⟨nmo, okw3, okt.1, okt.2.1⟩
      · rw [← wW]
        exact okt.2.2 n hn
      · rw [wsN_app, wW, List.flatMap_append, List.append_assoc] <;> rfl
  obtain ⟨y10, y11, sts, ws, kS, us, rfl, gRB, tusB, lusB, ⟨lsts, cuB⟩, gnB, xsB, sok, ord, wW, lw, EB, hkB, bB⟩ := h
  rw [List.length_map] at lusB lsts xsB lw hkB gnB cuB
  rw [List.take_length] at cuB
  have bbB : But [d] H HB := but_fresh (B := [d, nl, h0, R]) ((bb10.mono (by simp)).trans bB) (fun x hx => by
    simp only [List.mem_cons, List.not_mem_nil, or_false] at hx
    rcases hx with rfl | rfl | rfl | rfl
    · exact .inl rfl
    · exact .inr fn'
    · exact .inr f0
    · exact .inr R0)
  have tkAB : Tk HA HB := .but bB lstA
  have grB := bB _ _ (by simp [nrd.symm, nrn.symm, nr0.symm, nRr]) gr10
  have trB := tr10.mono tkAB
  have l5 := trB.len
  rw [List.length_map] at l5
  clear E10 gR10 gr10 tr10 gn10 bb10 bB tkAB lstA ptsA hysA npl3 np3 psA gnB gS2 nT0 nTR nTr nTn nTd mM
  have key : ∃ Pv : Nat → _root_.L2.St → Hp → Prop, Pv = fun j σ' H' => ∃ (y12 y13 y14 : Option V) (hr : List Y.Row) (k' : Nat) (us' : List V), σ' = [some (.ref d), some (.ref pl), some (.str nm), some (.ref p), some (.ref nl), some (.ref hs), some (.ref r), some (.ref R), some (.int i), some (.ref S), y10, y11, y12, y13, y14, none] ∧ H' R = some (.lst us') ∧ TuAll H' us' ((sts.flatMap St.rows ++ hr).map Y.Row.d) ∧ us'.length ≤ 12 + j ∧ hr.length = j ∧ (∀ (i : Nat) h r, hds[i]? = some h → hr[i]? = some r → Cp h r) ∧ (∀ r ∈ hr, rowOk ps r) ∧ En K H' d a hs h0 h1 ns k' ws (ssH hds) ps ∧ k' ≤ kS + 700 * j ∧ But [d, R] HB H' := ⟨_, rfl⟩
  obtain ⟨Pv, hPv⟩ := key
  have lstB : ∀ x ∈ [d, R], ∃ xs, HB x = some (.lst xs) := fun x hx => by
    simp only [List.mem_cons, List.not_mem_nil, or_false] at hx
    rcases hx with rfl | rfl
    · exact ⟨_, EB.dr.1⟩
    · exact ⟨_, gRB⟩
  walk_at "zz"
  refine z_FL (sq_of grB) Pv (by
    rw [hPv]
    exact ⟨_, _, _, [], kS, us, rfl, gRB, by rw [List.append_nil]; exact tusB, by omega, rfl, (fun i h r _ h2 => by simp at h2), (fun _ h => by cases h), EB, by omega, But.refl⟩) (fun j σ' H' hj h => ?_) (fun j x σ' H' hj hx h => ?_) (fun σ' HC h => ?_)
  · rw [hPv] at h
    obtain ⟨_, _, _, _, _, _, _, _, _, _, _, _, _, _, _, b⟩ := h
    exact sq_of (b _ _ (by simp [nrd.symm, nRr]) grB)
  · rw [hPv] at h
    obtain ⟨y12, y13, y14, hr, k', us', rfl, gRj, tusj, lusj, lhr, cp, rok, E, hk', bj⟩ := h
    have tkj : Tk HB H' := .but bj lstB
    obtain ⟨dd, hdd, tdd⟩ := trB.get hx
    rw [List.getElem?_map] at hdd
    obtain ⟨hj_, hhj, rfl⟩ := Option.map_eq_some_iff.mp hdd
    obtain ⟨b, wv, rest, rfl, hb, tw, trest⟩ := tu_hd (tdd.mono tkj)
    have okx := okh _ (List.mem_of_getElem? hhj)
    have fin : ∀ (HE : Hp) (v : V) (row : Y.Row) (k2 : Nat) (y12 y13 y14 : Option V), But [d] H' HE → En K HE d a hs h0 h1 ns k2 ws (ssH hds) ps → k2 ≤ k' + 700 → Tu HE v row.d → Cp hj_ row → rowOk ps row → ∃ xs, HE R = some (.lst xs) ∧ xs.length < sizeLine ∧ Pv (j + 1) [some (.ref d), some (.ref pl), some (.str nm), some (.ref p), some (.ref nl), some (.ref hs), some (.ref r), some (.ref R), some (.int i), some (.ref S), y10, y11, y12, y13, y14, none] (upd HE R (.lst (xs ++ [v]))) := fun HE v row k2 z12 z13 z14 bE EE hk2 tv cpr okr => by
      have gRE := bE _ _ (by simp [nRd.symm]) gRj
      have bD : But [R] HE (upd HE R (.lst (us' ++ [v]))) := But.put (by simp)
      have tkE : Tk HE (upd HE R (.lst (us' ++ [v]))) := .putL gRE
      refine ⟨us', gRE, szlt (by omega), ?_⟩
      rw [hPv]
      refine ⟨z12, z13, z14, hr ++ [row], k2, us' ++ [v], rfl, upd_same, ?_, by simp; omega, by simp; omega, fun n h' r' h1' h2' => ?_, fun y hy => ?_, EE.put bD ⟨by simp [nRd], by simp [nR0], by simp [nR1]⟩ (fun x hx => by rw [List.mem_singleton.mp hx]; exact sR) tkE, by omega, (bj.trans (bE.mono (by simp))).trans (bD.mono (by simp))⟩
      · rw [← List.append_assoc, List.map_append]
        exact ((tusj.mono (E.dr.tk bE)).mono tkE).app (.cons (tv.mono tkE) .nil)
      · by_cases hl : n < hr.length
        · rw [List.getElem?_append_left hl] at h2'
          exact cp n h' r' h1' h2'
        · rw [List.getElem?_append_right (by omega)] at h2'
          have h0 : n - hr.length = 0 := by
            cases hh : n - hr.length with
            | zero => rfl
            | succ m => rw [hh] at h2'; simp at h2'
          rw [h0] at h2'
          cases h2'
          have : n = j := by omega
          rw [this, hhj] at h1'
          cases h1'
          exact cpr
      · rcases List.mem_append.mp hy with hy | hy
        · exact rok y hy
        · rw [List.mem_singleton.mp hy]
          exact okr
    cases hj_ with
    | inn x w =>
      have hb : H' b = some (.tup (.str (Str.ofString "in") :: .str x :: wv :: rest)) := hb
      walk_at "zz"
      refine z_cut (fun σ' H1 => σ' = [some (.ref d), some (.ref pl), some (.str nm), some (.ref p), some (.ref nl), some (.ref hs), some (.ref r), some (.ref R), some (.int i), some (.ref S), y10, y11, some (.ref b), y13, y14, none] ∧ H' = H1) ?_ (fun σ' H1 hm => ?_)
      · walk_at "zz"
        refine z_ixT (st_of hb) (show atI _ ((0 : Nat) : Int) = _ from atI_nat rfl) ?_
        walk_at "zz"
        rw [kw_dec (a := Str.ofString "in") (b := Str.ofString "rest") (by decide +kernel)]
        exact ite_f (z_next ⟨rfl, rfl⟩)
      obtain ⟨rfl, rfl⟩ := hm
      walk_at "zz"
      refine z_cut (fun σ' H1 => σ' = [some (.ref d), some (.ref pl), some (.str nm), some (.ref p), some (.ref nl), some (.ref hs), some (.ref r), some (.ref R), some (.int i), some (.ref S), y10, y11, some (.ref b), y13, y14, none] ∧ H' = H1) ?_ (fun σ' H1 hm => ?_)
      · walk_at "zz"
        refine z_ixT (st_of hb) (show atI _ ((0 : Nat) : Int) = _ from atI_nat rfl) ?_
        walk_at "zz"
        rw [kw_dec (a := Str.ofString "in") (b := Str.ofString "memory") (by decide +kernel)]
        exact ite_f (z_next ⟨rfl, rfl⟩)
      obtain ⟨rfl, rfl⟩ := hm
      obtain ⟨xs, g, l, pv⟩ := fin H' (.ref b) (.inn x w) k' (some (.ref b)) y13 y14 But.refl E (by omega) (tdd.mono tkj) (.inn x w) ⟨okx.1, okx.2.1⟩
      walk_at "zz"
      refine z_tyl (sq_of g) ?_
      walk_at "zz"
      exact z_rapp g l pv
    | tab x w xs_ =>
      have hb : H' b = some (.tup (.str (Str.ofString "table") :: .str x :: wv :: rest)) := hb
      walk_at "zz"
      refine z_cut (fun σ' H1 => σ' = [some (.ref d), some (.ref pl), some (.str nm), some (.ref p), some (.ref nl), some (.ref hs), some (.ref r), some (.ref R), some (.int i), some (.ref S), y10, y11, some (.ref b), y13, y14, none] ∧ H' = H1) ?_ (fun σ' H1 hm => ?_)
      · walk_at "zz"
        refine z_ixT (st_of hb) (show atI _ ((0 : Nat) : Int) = _ from atI_nat rfl) ?_
        walk_at "zz"
        rw [kw_dec (a := Str.ofString "table") (b := Str.ofString "rest") (by decide +kernel)]
        exact ite_f (z_next ⟨rfl, rfl⟩)
      obtain ⟨rfl, rfl⟩ := hm
      walk_at "zz"
      refine z_cut (fun σ' H1 => σ' = [some (.ref d), some (.ref pl), some (.str nm), some (.ref p), some (.ref nl), some (.ref hs), some (.ref r), some (.ref R), some (.int i), some (.ref S), y10, y11, some (.ref b), y13, y14, none] ∧ H' = H1) ?_ (fun σ' H1 hm => ?_)
      · walk_at "zz"
        refine z_ixT (st_of hb) (show atI _ ((0 : Nat) : Int) = _ from atI_nat rfl) ?_
        walk_at "zz"
        rw [kw_dec (a := Str.ofString "table") (b := Str.ofString "memory") (by decide +kernel)]
        exact ite_f (z_next ⟨rfl, rfl⟩)
      obtain ⟨rfl, rfl⟩ := hm
      obtain ⟨xs, g, l, pv⟩ := fin H' (.ref b) (.tab x w xs_) k' (some (.ref b)) y13 y14 But.refl E (by omega) (tdd.mono tkj) (.tab x w xs_) ⟨okx.1, okx.2.1, okx.2.2.1, okx.2.2.2⟩
      walk_at "zz"
      refine z_tyl (sq_of g) ?_
      walk_at "zz"
      exact z_rapp g l pv
    | rest x w n =>
      have hb : H' b = some (.tup (.str (Str.ofString "rest") :: .str x :: wv :: rest)) := hb
      have okw : wOk3 ps w := okx.2.1
      have tw : Tu H' wv (wdD w) := tw
      cases trest with
      | cons t1 tn => cases tn with
        | nil =>
          cases tu_int t1
          walk_at "zz"
          refine z_cut (fun σ' H1 => ∃ (b2 : Addr) (u : V) (t : Trm) (k2 : Nat), σ' = [some (.ref d), some (.ref pl), some (.str nm), some (.ref p), some (.ref nl), some (.ref hs), some (.ref r), some (.ref R), some (.int i), some (.ref S), y10, y11, some (.ref b2), y13, y14, none] ∧ But [d] H' H1 ∧ En K H1 d a hs h0 h1 ns k2 ws (ssH hds) ps ∧ k2 ≤ k' + 201 ∧ H1 b2 = some (.tup [.str (Str.ofString "rest"), .str x, wv, .int n, u]) ∧ Tu H1 (.ref b2) (Y.Row.rest x w n t).d ∧ t.ok ps ∧ t.deep ≤ 4) ?_ (fun σ' H1 hm => ?_)
          · walk_at "zz"
            refine z_ixT (st_of hb) (show atI _ ((0 : Nat) : Int) = _ from atI_nat rfl) ?_
            walk_at "zz"
            rw [show decide (V.str (Str.ofString "rest") = V.str (Str.ofString "rest")) = true from decide_eq_true rfl]
            refine ite_t ?_
            walk_at "zz"
            refine z_ixT (st_of hb) (show atI _ ((2 : Nat) : Int) = _ from atI_nat rfl) ?_
            walk_at "zz"
            refine c_term (e := 3) E (by omega) (by decide) tw okw.ok fun u HC t k2 hk2 bC kkC EC tuC okC => ?_
            walk_at "zz"
            refine ⟨szl (by simp), fun t1 ht1 => ?_⟩
            have e2 := Ex.new (o := .tup [u]) ht1
            refine ⟨b, t1, _, _, rfl, rfl, st_of (e2 _ _ (kkC _ _ hb)), st_of upd_same, szl (by simp), (fun h => by cases h), (fun _ h => by cases h), fun _ _ b2 hb2 => ?_⟩
            have e3 := e2.trans (Ex.new (o := .tup ([.str (Str.ofString "rest"), .str x, wv, .int n] ++ [u])) hb2)
            refine ⟨b2, u, t, k2, rfl, bC.trans (But.ex e3), EC.ex e3, by omega, upd_same, Tu.mk hb2 (.cons (.str _) (.cons (.str _) (.cons ((tw.mono kkC).ex e2) (.cons (.int _) (.cons (tuC.ex e2) .nil))))), okC.1, by have := okC.2.1; omega⟩
          obtain ⟨b2, u, t, k2, rfl, bC, EC, hk2, hb2, tr2, okt, dpt⟩ := hm
          walk_at "zz"
          refine z_cut (fun σ' H2 => σ' = [some (.ref d), some (.ref pl), some (.str nm), some (.ref p), some (.ref nl), some (.ref hs), some (.ref r), some (.ref R), some (.int i), some (.ref S), y10, y11, some (.ref b2), y13, y14, none] ∧ H2 = H1) ?_ (fun σ' H2 hm => ?_)
          · walk_at "zz"
            refine z_ixT (st_of hb2) (show atI _ ((0 : Nat) : Int) = _ from atI_nat rfl) ?_
            walk_at "zz"
            rw [kw_dec (a := Str.ofString "rest") (b := Str.ofString "memory") (by decide +kernel)]
            exact ite_f (z_next ⟨rfl, rfl⟩)
          obtain ⟨rfl, rfl⟩ := hm
          obtain ⟨xs, g, l, pv⟩ := fin H2 (.ref b2) (.rest x w n t) k2 (some (.ref b2)) y13 y14 bC EC (by omega) tr2 (.rest x w n t) ⟨okx.1, okw, okx.2.2, okt, dpt⟩
          walk_at "zz"
          refine z_tyl (sq_of g) ?_
          walk_at "zz"
          exact z_rapp g l pv
    | mem x w n =>
      have hb : H' b = some (.tup (.str (Str.ofString "memory") :: .str x :: wv :: rest)) := hb
      have okw : wOk3 ps w := okx.2.1
      have tw : Tu H' wv (wdD w) := tw
      cases trest with
      | cons t1 tn => cases tn with
        | nil =>
          cases tu_int t1
          walk_at "zz"
          refine z_cut (fun σ' H1 => σ' = [some (.ref d), some (.ref pl), some (.str nm), some (.ref p), some (.ref nl), some (.ref hs), some (.ref r), some (.ref R), some (.int i), some (.ref S), y10, y11, some (.ref b), y13, y14, none] ∧ H1 = H') ?_ (fun σ' H1 hm => ?_)
          · walk_at "zz"
            refine z_ixT (st_of hb) (show atI _ ((0 : Nat) : Int) = _ from atI_nat rfl) ?_
            walk_at "zz"
            rw [kw_dec (a := Str.ofString "memory") (b := Str.ofString "rest") (by decide +kernel)]
            exact ite_f (z_next ⟨rfl, rfl⟩)
          obtain ⟨rfl, rfl⟩ := hm
          walk_at "zz"
          refine z_cut (fun σ' H2 => ∃ (b2 : Addr) (z13 z14 : Option V) (ta tb tc_ : Trm) (k2 : Nat), σ' = [some (.ref d), some (.ref pl), some (.str nm), some (.ref p), some (.ref nl), some (.ref hs), some (.ref r), some (.ref R), some (.int i), some (.ref S), y10, y11, some (.ref b2), z13, z14, none] ∧ But [d] H1 H2 ∧ En K H2 d a hs h0 h1 ns k2 ws (ssH hds) ps ∧ k2 ≤ k' + 700 ∧ Tu H2 (.ref b2) (Y.Row.mem x w n ta tb tc_).d ∧ (ta.ok ps ∧ ta.deep ≤ 4) ∧ (tb.ok ps ∧ tb.deep ≤ 4) ∧ tc_.ok ps ∧ tc_.deep ≤ 4) ?_ (fun σ' H2 hm => ?_)
          · walk_at "zz"
            refine z_ixT (st_of hb) (show atI _ ((0 : Nat) : Int) = _ from atI_nat rfl) ?_
            walk_at "zz"
            rw [show decide (V.str (Str.ofString "memory") = V.str (Str.ofString "memory")) = true from decide_eq_true rfl]
            refine ite_t ?_
            walk_at "zz"
            refine ⟨d, a, ns, k', rfl, E.dr, by omega, fun mo HD m0 m1 hdD bD => ?_⟩
            have ED := E.bu bD hdD
            have kD := E.dr.tk bD
            walk_at "zz"
            refine ⟨szl (by simp), fun t1 ht1 => ?_⟩
            have e1 := Ex.new (o := .tup [.str (Str.ofString ""), .int (1 + mo % 3)]) ht1
            walk_at "zz"
            refine c_term (e := 2) (ED.ex e1) (by omega) (by decide) (Tu.mk ht1 (.cons (.str _) (.cons (.int _) .nil))) (wd0 (1 + mo % 3) (by omega) ps) fun uA HA_ ta kA hkA bA kkA EA tuA okA => ?_
            have tk1 := (kD.trans (.ex e1)).trans kkA
            have bb1 := (bD.trans (But.ex e1)).trans bA
            walk_at "zz"
            refine z_ixT (st_of (tk1 _ _ hb)) (show atI _ ((2 : Nat) : Int) = _ from atI_nat rfl) ?_
            walk_at "zz"
            refine c_term (e := 2) EA (by omega) (by decide) (tw.mono tk1) okw.ok fun uB HB_ tb kB_ hkB_ bB_ kkB EB_ tuB okB => ?_
            have tk2 := tk1.trans kkB
            have bb2 := bb1.trans bB_
            have tuA2 := tuA.mono kkB
            walk_at "zz"
            refine ⟨szl (by simp), fun t2 ht2 => ?_⟩
            have e2 := Ex.new (o := .tup [.str (Str.ofString ""), .int 1]) ht2
            walk_at "zz"
            refine c_term (e := 2) (EB_.ex e2) (by omega) (by decide) (Tu.mk ht2 (.cons (.str _) (.cons (.int _) .nil))) (wd0 1 (by decide) ps) fun uC HC_ tc_ kC hkC bC kkC EC tuC okC => ?_
            have tk3 := (tk2.trans (.ex e2)).trans kkC
            have bb3 := (bb2.trans (But.ex e2)).trans bC
            have tuA3 := (tuA2.ex e2).mono kkC
            have tuB3 := (tuB.ex e2).mono kkC
            walk_at "zz"
            refine ⟨szl (by simp), fun t3 ht3 => ?_⟩
            have e3 := Ex.new (o := .tup [uA, uB, uC]) ht3
            refine ⟨b, t3, _, _, rfl, rfl, st_of (e3 _ _ (tk3 _ _ hb)), st_of upd_same, szl (by simp), (fun h => by cases h), (fun _ h => by cases h), fun _ _ b2 hb2 => ?_⟩
            have e4 := e3.trans (Ex.new (o := .tup ([.str (Str.ofString "memory"), .str x, wv, .int n] ++ [uA, uB, uC])) hb2)
            refine ⟨b2, _, _, ta, tb, tc_, kC, rfl, bb3.trans (But.ex e4), EC.ex e4, by omega, Tu.mk hb2 (.cons (.str _) (.cons (.str _) (.cons ((tw.mono tk3).ex e3) (.cons (.int _) (.cons (tuA3.ex e3) (.cons (tuB3.ex e3) (.cons (tuC.ex e3) .nil))))))), ⟨okA.1, by have := okA.2.1; omega⟩, ⟨okB.1, by have := okB.2.1; omega⟩, okC.1, by have := okC.2.1; omega⟩
          obtain ⟨b2, z13, z14, ta, tb, tc_, k2, rfl, bC, EC, hk2, tr2, oka, okb, okc⟩ := hm
          obtain ⟨xs, g, l, pv⟩ := fin H2 (.ref b2) (.mem x w n ta tb tc_) k2 (some (.ref b2)) z13 z14 bC EC (by omega) tr2 (.mem x w n ta tb tc_) ⟨okx.1, okw, okx.2.2, oka, okb, okc⟩
          walk_at "zz"
          refine z_tyl (sq_of g) ?_
          walk_at "zz"
          exact z_rapp g l pv
  rw [hPv] at h
  obtain ⟨y12, y13, y14, hr, kC, us2, rfl, gRC, tusC, lusC, lhr, cp, rok, EC, hkC, bC⟩ := h
  have bbC : But [d] H HC := but_fresh (B := [d, R]) ((bbB.mono (by simp)).trans bC) (fun x hx => by
    simp only [List.mem_cons, List.not_mem_nil, or_false] at hx
    rcases hx with rfl | rfl
    · exact .inl rfl
    · exact .inr R0)
  have drC := EC.dr
  have slM := lM
  rw [← lsts] at slM
  have pos : 0 < us2.length := by
    have := tusC.len
    rw [List.length_map] at this
    rw [this]
    exact rows_pos slM.1 hr
  clear EC bC gRB tusB grB trB EB bbB lstB
  walk_at "zz"
  refine z_lenL (sq_of gRC) ?_
  walk_at "zz"
  obtain ⟨tn, htn⟩ := Int.eq_ofNat_of_zero_le (Int.emod_nonneg (i / 120) (show ((us2.length : Nat) : Int) ≠ 0 by omega))
  generalize i / 120 % ((us2.length : Nat) : Int) = tt at htn ⊢
  subst htn
  generalize hR0 : sts.flatMap St.rows ++ hr = rows0 at tusC
  have lrow := tusC.len
  rw [List.length_map] at lrow
  walk_at "zz"
  refine z_slL (sq_of gRC) fun p1 hp1 => ?_
  have x1 := Ex.new (o := .lst (cutV us2 (some (tn : Int)) none)) hp1
  have y1 : upd HC p1 (.lst (cutV us2 (some (tn : Int)) none)) p1 = some (.lst (us2.drop tn)) := by rw [upd_same, cutv_drop]
  generalize upd HC p1 _ = H1 at x1 y1 ⊢
  walk_at "zz"
  refine z_slL (sq_of (x1 _ _ gRC)) fun p2 hp2 => ?_
  have x2 := Ex.new (o := .lst (cutV us2 none (some (tn : Int)))) hp2
  have y2 : upd H1 p2 (.lst (cutV us2 none (some (tn : Int)))) p2 = some (.lst (us2.take tn)) := by rw [upd_same, cutv_take]
  generalize upd H1 p2 _ = H2 at x2 y2 ⊢
  refine z_cat (x2 _ _ y1) y2 (szl (by rw [List.length_drop, List.length_take]; omega)) fun p3 hp3 => ?_
  have x3 := Ex.new (o := .lst (us2.drop tn ++ us2.take tn)) hp3
  have y3 : upd H2 p3 (.lst (us2.drop tn ++ us2.take tn)) p3 = _ := upd_same
  have x12 := x1.trans x2
  have xx := x12.trans x3
  have f3 : H p3 = none := But.fresh bbC (ex_none x12 hp3) (fun z => by
    have := ex_none x12 hp3
    rw [List.mem_singleton.mp z, drC.1] at this
    cases this)
  have tus3 : TuAll (upd H2 p3 (.lst (us2.drop tn ++ us2.take tn))) (us2.drop tn ++ us2.take tn) ((rows0.drop tn ++ rows0.take tn).map Y.Row.d) := by
    rw [List.map_append, List.map_drop, List.map_take]
    exact ((tusC.drop tn).app (tusC.take tn)).ex xx
  have perm3 : (rows0.drop tn ++ rows0.take tn).Perm rows0 := by
    have h1 : (rows0.drop tn ++ rows0.take tn).Perm (rows0.take tn ++ rows0.drop tn) := List.perm_append_comm
    rw [List.take_append_drop] at h1
    exact h1
  have dr3 := drC.ex xx
  have bb3 := bbC.trans (But.ex xx)
  generalize upd H2 p3 _ = H3 at x3 y3 xx tus3 dr3 bb3 ⊢
  clear x1 x2 x3 y1 y2 x12 xx hp1 hp2 hp3
  have np3 : d ≠ p3 := some_ne dH f3
  have sp3 := sep_new hd.2 f3
  have made : ∀ rows : List Y.Row, rows.Perm rows0 → Made yd zs ps nm ⟨nm, ps, rows⟩ hds hr sts := fun rows pr => by
    refine ⟨rfl, rfl, by rw [hR0]; exact pr, ?_, lh, by omega, by omega, by omega, cp, okh, rok, sok, ord⟩
    rw [xh, xsB, ← lsts, List.take_add]
  have ret : ∀ (HF : Hp) (us : List V) (rows : List Y.Row) (y15 : Option V), HF p3 = some (.lst us) → TuAll HF us (rows.map Y.Row.d) → rows.Perm rows0 → Dr K HF d a ns kC → But [d] H HF → tRet (tTup (tCons (tVar 2) (tCons (tCB (ZI.cTupOfF K) (tCons (tVar 3) tNil)) (tCons (tCB (cTupOf K) (tCons (tVar 7) tNil)) tNil)))) { nx := fun _ H' => Q .non H', rt := Q } [some (.ref d), some (.ref pl), some (.str nm), some (.ref p), some (.ref nl), some (.ref hs), some (.ref r), some (.ref p3), some (.int i), some (.ref S), y10, y11, y12, y13, y14, y15] HF := fun HF us rows y15 g t pr dr b => by
    have pf := hp.bu (by simp [npd]) b
    walk_at "zz"
    refine ⟨_, _, rfl, sq_of pf.1, fun l1 o1 hl1 od => ?_⟩
    have e1 := Ex.new (o := .frz o1 (.tup (ps.map V.str))) hl1
    have g1 : upd HF l1 (.frz o1 (.tup (ps.map V.str))) l1 = _ := upd_same
    generalize upd HF l1 _ = HG at e1 g1 ⊢
    walk_at "zz"
    refine ⟨_, _, rfl, .inl ⟨sq_of (e1 _ _ g), fun l2 hl2 => ?_⟩⟩
    have e2 := Ex.new (o := .tup us) hl2
    have g2 : upd HG l2 (.tup us) l2 = _ := upd_same
    generalize upd HG l2 _ = HH at e2 g2 ⊢
    walk_at "zz"
    refine ⟨szl (by simp), fun t9 ht9 => ?_⟩
    have e3 := Ex.new (o := .tup [.str nm, .ref l1, .ref l2]) ht9
    have e123 := (e1.trans e2).trans e3
    exact q _ _ ⟨nm, ps, rows⟩ hds hr sts kC (made rows pr) ⟨t9, l1, l2, o1, us, rfl, upd_same, e3 _ _ (e2 _ _ g1), od, e3 _ _ g2, t.ex e123⟩ (dr.ex e123) (by omega) (b.trans (But.ex e123))
  walk_at "zz"
  refine ite_b (fun _ => ?_) (fun _ => z_next (ret _ _ _ _ y3 tus3 perm3 dr3 bb3))
  walk_at "zz"
  refine z_tyl (sq_of y3) ?_
  refine ⟨p3, _, rfl, rfl, y3, ?_⟩
  refine ret _ _ (rows0.drop tn ++ rows0.take tn).reverse _ upd_same ?_ ((List.reverse_perm _).trans perm3) (dr3.bu (B := [p3]) (by simp [np3]) (fun y hy => by rw [List.mem_singleton.mp hy]; exact sp3) (But.put (by simp))) (bb3.mut f3)
  rw [List.map_reverse]
  exact (tus3.mono (.putL y3)).rev
theorem st_rows_ok {yd : Yard} {ps : List Str} (hyd : ∀ pt ∈ yd, PU pt) {s : St} (h : s.ok yd ps) : ∀ r ∈ s.rows, rowOk ps r := fun r hr => by
  cases s with
  | lt b x w t =>
    obtain ⟨h1, h2, h3, h4⟩ := h
    rcases List.mem_cons.mp hr with rfl | hr
    · cases b <;> exact ⟨h1, h2⟩
    · rw [List.mem_singleton.mp hr]
      exact ⟨h1, h3, h4⟩
  | us x pt ws ts =>
    obtain ⟨h1, h2, h3, h4, h5, h6⟩ := h
    rw [List.mem_singleton.mp hr]
    exact ⟨h2, (hyd pt h1).nm, h4, h6⟩
theorem st_ins (sts : List St) : ((drs (sts.flatMap St.rows)).filter fun e => e.1) = [] := by
  induction sts with
  | nil => rfl
  | cons s r ih =>
    unfold drs at ih ⊢
    rw [List.flatMap_cons, List.filterMap_append, List.filter_append, ih, List.append_nil]
    cases s with
    | lt b x w t => cases b <;> rfl
    | us => rfl
theorem st_outs (sts : List St) : ((drs (sts.flatMap St.rows)).filter fun e => !e.1).length ≤ sts.length := by
  induction sts with
  | nil => exact Nat.le_refl _
  | cons s r ih =>
    unfold drs at ih ⊢
    rw [List.flatMap_cons, List.filterMap_append, List.filter_append, List.length_append, List.length_cons]
    have : ((List.filterMap door s.rows).filter fun e => !e.1).length ≤ 1 := by
      cases s with
      | lt b x w t =>
        cases b
        · exact Nat.le_refl 1
        · exact Nat.zero_le 1
      | us => exact Nat.zero_le 1
    omega
theorem cp_door {h : Hd} {r : Y.Row} (c : Cp h r) : door r = none ∨ ∃ x w, door r = some (true, x, w) := by
  cases c
  · exact .inr ⟨_, _, rfl⟩
  · exact .inl rfl
  · exact .inl rfl
  · exact .inl rfl
theorem hr_outs {hr : List Y.Row} (h : ∀ r ∈ hr, door r = none ∨ ∃ x w, door r = some (true, x, w)) : ((drs hr).filter fun e => !e.1) = [] := by
  refine List.filter_eq_nil_iff.mpr fun e he => ?_
  obtain ⟨r, hr', e'⟩ := List.mem_filterMap.mp he
  rcases h r hr' with z | ⟨x, w, z⟩
  · rw [z] at e'
    cases e'
  · rw [z] at e'
    cases e'
    simp
theorem Made.rows {yd : Yard} {zs ps : List Str} {nm : Str} {pt : Y.Part} {hds : List Hd} {hr : List Y.Row} {sts : List St} (m : Made yd zs ps nm pt hds hr sts) (hyd : ∀ pt ∈ yd, PU pt) : ∀ r ∈ pt.rows, rowOk ps r := fun r h => by
  rcases List.mem_append.mp (m.perm.mem_iff.mp h) with h | h
  · obtain ⟨s, hs, hr⟩ := List.mem_flatMap.mp h
    exact st_rows_ok hyd (m.sok s hs) r hr
  · exact m.rok r h
theorem Made.hcp {yd : Yard} {zs ps : List Str} {nm : Str} {pt : Y.Part} {hds : List Hd} {hr : List Y.Row} {sts : List St} (m : Made yd zs ps nm pt hds hr sts) : ∀ r ∈ hr, ∃ h ∈ hds, Cp h r := fun r hr' => by
  obtain ⟨i, hi, e⟩ := List.mem_iff_getElem.mp hr'
  have hl : i < hds.length := by rw [← m.cl]; exact hi
  exact ⟨hds[i], List.getElem_mem hl, m.cp i _ r (List.getElem?_eq_getElem hl) (by rw [List.getElem?_eq_getElem hi, e])⟩
theorem Made.pu {yd : Yard} {zs ps : List Str} {nm : Str} {pt : Y.Part} {hds : List Hd} {hr : List Y.Row} {sts : List St} (m : Made yd zs ps nm pt hds hr sts) (hyd : ∀ pt ∈ yd, PU pt) (hn : nmS nm) (lp : ps.length ≤ 3) (np : ∀ z ∈ ps, nmS z) : PU pt := by
  have dp : (drs pt.rows).Perm (drs (sts.flatMap St.rows) ++ drs hr) := by
    have := m.perm.filterMap door
    rw [List.filterMap_append] at this
    exact this
  have lh := m.hl
  have lc := m.cl
  have ls := m.sl.2
  have drl : (drs hr).length ≤ hr.length := List.length_filterMap_le _ _
  refine ⟨by rw [m.nm_]; exact hn, by rw [m.ps_]; exact lp, by rw [m.ps_]; exact np, ?_, fun e he => ?_, ?_, ?_, fun r hr' => ?_⟩
  · rw [m.perm.length_eq, List.length_append]
    have : ∀ l : List St, (l.flatMap St.rows).length ≤ 2 * l.length := fun l => by
      induction l with
      | nil => exact Nat.le_refl _
      | cons s r ih =>
        rw [List.flatMap_cons, List.length_append, List.length_cons]
        have : s.rows.length ≤ 2 := by cases s <;> simp [St.rows]
        omega
    have := this sts
    omega
  · obtain ⟨r, hr', e'⟩ := List.mem_filterMap.mp he
    have ok := m.rows hyd r hr'
    rw [m.ps_]
    cases r <;> cases e' <;> exact ok
  · unfold insOf
    rw [List.length_map, (dp.filter _).length_eq, List.filter_append, st_ins, List.nil_append]
    have := List.length_filter_le (fun e : Bool × Str × Wd => e.1) (drs hr)
    omega
  · unfold outsOf
    rw [List.length_map, (dp.filter _).length_eq, List.filter_append, hr_outs (hr := hr) (fun r hr' => by
      obtain ⟨h, _, c⟩ := m.hcp r hr'
      exact cp_door c), List.append_nil]
    have := st_outs sts
    omega
  · exact row_cl np (m.rows hyd r hr')
theorem cut_mid {zs : List Str} {i j : Nat} (h : i ≤ j ∧ j ≤ zs.length) : cutV (zs.map V.str) (some (i : Int)) (some (j : Int)) = ((zs.drop i).take (j - i)).map V.str := by
  unfold cutV
  rw [HT.sIx_nat, HT.sIx_nat, List.length_map, Nat.min_eq_left (by omega), Nat.min_eq_left (by omega), ← List.map_drop, ← List.map_take]
theorem vr_L_yard (vs H Q E) (h : sp_L_yard K vs H Q E) : (rd_L_yard K) { nx := fun _ H' => Q .non H', rt := Q } (start ["_law_script", "_law_draw", "_law_names_here", "_law_many", "_law_parts", "_law_k", "_law_params"] vs) H := by
  obtain ⟨a, ns, rfl, hs, q⟩ := h
  unfold rd_L_yard
  walk_at "zz"
  refine ⟨szl (by simp), fun d fd => ?_⟩
  have e1 := Ex.new (o := .lst [.ref a, .int 0]) fd
  have D1 : Dr K (upd H d (.lst [.ref a, .int 0])) d a ns 0 := ⟨upd_same, ex_l e1 hs⟩
  generalize upd H d _ = H1 at e1 D1 ⊢
  walk_at "zz"
  refine ⟨a, ns, 0, rfl, D1.2, ⟨by decide, by decide⟩, fun H2 e2 => ?_⟩
  walk_at "zz"
  refine ⟨cellN ns 0, rfl, cellN_b ns 0, fun N lN nN nmN => fun pN H3 fN e3 gN => ?_⟩
  have e23 := e2.trans e3
  have D3 := D1.ex e23
  walk_at "zz"
  refine ⟨d, a, ns, 0, rfl, D3, by decide, fun x H4 x0 x1 D4 b4 => ?_⟩
  have gN4 := b4 _ _ (fun z => by
    rw [List.mem_singleton.mp z] at gN
    rw [D3.1] at gN
    have := congrArg List.length (HO.lst.inj (Option.some.inj gN))
    rw [List.length_map, lN] at this
    simp at this) gN
  have B4 : But [d] H H4 := ((But.ex e1).trans (But.ex e23)).trans b4
  walk_at "zz"
  refine ⟨szl (by simp), fun P fP => ?_⟩
  have P0 : H P = none := But.fresh B4 fP (fun z => by
    rw [List.mem_singleton.mp z, D4.1] at fP
    cases fP)
  have d0 : d ≠ P := some_ne D4.1 fP
  have n0 : pN ≠ P := some_ne gN4 fP
  have nd : pN ≠ d := fun z => by
    rw [z, D4.1] at gN4
    have := congrArg List.length (HO.lst.inj (Option.some.inj gN4))
    rw [List.length_map, lN] at this
    simp at this
  have sP : Sep K a P (ns.map V.int) := sep_new hs P0
  have e5 := Ex.new (o := .lst []) fP
  have gP : upd H4 P (.lst []) P = some (.lst []) := upd_same
  have gN5 := e5 _ _ gN4
  have D5 := D4.ex e5
  have B5 := B4.trans (But.ex e5)
  generalize upd H4 P _ = H5 at e5 gP gN5 D5 B5 ⊢
  clear e1 D1 e2 e3 e23 D3 D4 b4 gN gN4 B4
  obtain ⟨mm, hmm⟩ := Int.eq_ofNat_of_zero_le (show 0 ≤ 1 + x % 4 by omega)
  have bm : 1 ≤ mm ∧ mm ≤ 4 := by omega
  walk_at "zz"
  rw [hmm]
  have key : ∃ Pv : Nat → _root_.L2.St → Hp → Prop, Pv = fun j σ' H' => ∃ (y5 y6 : Option V) (y : Yard) (vs : List V) (c : Nat), σ' = [some (.ref a), some (.ref d), some (.ref pN), some (.int (mm : Int)), some (.ref P), y5, y6] ∧ H' P = some (.lst vs) ∧ PtAll H' vs y ∧ y.length = j ∧ y.map Y.Part.name = N.take j ∧ (∀ (i : Nat) pt, y[i]? = some pt → i + 1 = mm → pt.params = []) ∧ (∀ (i : Nat) pt, y[i]? = some pt → ∃ zs hds hr sts, Made (y.take i) zs pt.params pt.name pt hds hr sts ∧ zs.Nodup ∧ zs.length = 16 ∧ ∀ z ∈ zs, nmS z) ∧ (∀ pt ∈ y, PU pt) ∧ Dr K H' d a ns c ∧ c ≤ 1 + 14001 * j ∧ But [d] H H' ∧ But [d, P] H5 H' := ⟨_, rfl⟩
  obtain ⟨Pv, hPv⟩ := key
  refine z_FR1 (by omega) Pv (by
    rw [hPv]
    exact ⟨_, _, [], [], 1, rfl, gP, ⟨rfl, fun i v pt hv => by simp at hv⟩, rfl, rfl, (fun i pt h => by simp at h), (fun i pt h => by simp at h), (fun _ h => by cases h), D5, by omega, B5, But.refl⟩) (fun j σ' H' hj h => ?_) (fun σ' H' h => ?_)
  · rw [hPv] at h
    obtain ⟨y5, y6, y, vs, c, rfl, gPj, pts, ly, ynm, ymain, ymd, ypu, dr, hc, bj, bj5⟩ := h
    have hj' : j < mm := hj
    have main : ∀ (D : Ends) (HP : Hp) (p : Addr) (ps : List Str) (c2 : Nat), (∀ σ H, Pv (j + 1) σ H → D.nx σ H) → HP p = some (.lst (ps.map V.str)) → ps.length ≤ 3 → (∀ z ∈ ps, nmS z) → p ≠ d → (j + 1 = mm → ps = []) → Dr K HP d a ns c2 → c2 ≤ c + 1 → But [d] H' HP → tDrop (tBM K "list" rAppend (tVar 4) (tCons (tCall (sp_L_part K) [] E0 (tCons (tVar 1) (tCons (tVar 4) (tCons (tOp (rIxL K) (tVar 2) (tVar 5)) (tCons (tVar 6) (tCons (tOp rCat (tSl (rSlL K) (tVar 2) (tPart (tOp rMulI (tC (.int 3)) (tVar 5))) tNoPart) (tSl (rSlL K) (tVar 2) tNoPart (tPart (tOp rMulI (tC (.int 3)) (tVar 5))))) tNil)))))) tNil)) D [some (.ref a), some (.ref d), some (.ref pN), some (.int (mm : Int)), some (.ref P), some (.int (j : Int)), some (.ref p)] HP := fun D HP p ps c2 hD gp lps nps npd hlast drP hc2 bP => by
      have bH := bj.trans bP
      have b5 := bj5.trans (bP.mono (by simp))
      have gPP := bP _ _ (by simp [d0.symm]) gPj
      have gNP := b5 _ _ (by simp [nd, n0]) gN5
      have ptsP := pts.bu bP (fun x hx => by rw [List.mem_singleton.mp hx]; exact ⟨_, dr.1⟩)
      obtain ⟨z, hz⟩ : ∃ z, N[j]? = some z := ⟨_, List.getElem?_eq_getElem (by omega)⟩
      walk_at "zz"
      refine z_tyl (sq_of gPP) ?_
      walk_at "zz"
      refine z_ixL (sq_of gNP) (atI_nat (by rw [List.getElem?_map, hz] <;> rfl)) ?_
      walk_at "zz"
      have e3j : (3 : Int) * (j : Int) = ((3 * j : Nat) : Int) := by omega
      rw [e3j]
      refine z_slL (sq_of gNP) fun p1 hp1 => ?_
      have x1 := Ex.new (o := .lst (cutV (N.map V.str) (some ((3 * j : Nat) : Int)) none)) hp1
      have y1 : upd HP p1 (.lst (cutV (N.map V.str) (some ((3 * j : Nat) : Int)) none)) p1 = some (.lst ((N.drop (3 * j)).map V.str)) := by rw [upd_same, cutv_drop, List.map_drop]
      generalize upd HP p1 _ = Ha at x1 y1 ⊢
      walk_at "zz"
      rw [e3j]
      refine z_slL (sq_of (x1 _ _ gNP)) fun p2 hp2 => ?_
      have x2 := Ex.new (o := .lst (cutV (N.map V.str) none (some ((3 * j : Nat) : Int)))) hp2
      have y2 : upd Ha p2 (.lst (cutV (N.map V.str) none (some ((3 * j : Nat) : Int)))) p2 = some (.lst ((N.take (3 * j)).map V.str)) := by rw [upd_same, cutv_take, List.map_take]
      generalize upd Ha p2 _ = Hb at x2 y2 ⊢
      refine z_cat (x2 _ _ y1) y2 (szl (by rw [List.length_map, List.length_map, List.length_drop, List.length_take]; omega)) fun p3 hp3 => ?_
      have x3 := Ex.new (o := .lst ((N.drop (3 * j)).map V.str ++ (N.take (3 * j)).map V.str)) hp3
      have y3 : upd Hb p3 (.lst ((N.drop (3 * j)).map V.str ++ (N.take (3 * j)).map V.str)) p3 = some (.lst ((N.drop (3 * j) ++ N.take (3 * j)).map V.str)) := by rw [upd_same, List.map_append]
      have xx := (x1.trans x2).trans x3
      generalize upd Hb p3 _ = Hc at x3 y3 xx ⊢
      have permN : (N.drop (3 * j) ++ N.take (3 * j)).Perm N := by
        have h1 : (N.drop (3 * j) ++ N.take (3 * j)).Perm (N.take (3 * j) ++ N.drop (3 * j)) := List.perm_append_comm
        rw [List.take_append_drop] at h1
        exact h1
      walk_at "zz"
      refine ⟨d, a, P, p, p3, ns, c2, ps, N.drop (3 * j) ++ N.take (3 * j), z, y, rfl, ⟨drP.ex xx, by omega⟩, ⟨⟨vs, xx _ _ gPP, ptsP.bu (B := []) (But.ex xx) (fun _ h => by cases h)⟩, ypu, d0.symm, by omega⟩, nmN z (List.mem_of_getElem? hz), ⟨⟨xx _ _ gp, lps, nps⟩, npd⟩, ⟨y3, by rw [permN.length_eq]; exact lN, fun w hw => nmN w (permN.mem_iff.mp hw)⟩, fun u HQ pt hds hr sts c3 made pa drQ hk b => ?_⟩
      have gPQ := b _ _ (by simp [d0.symm]) (xx _ _ gPP)
      have ptsQ := (ptsP.bu (B := []) (But.ex xx) (fun _ h => by cases h)).bu b (fun x hx => by rw [List.mem_singleton.mp hx]; exact ⟨_, (drP.ex xx).1⟩)
      have lv := ptsQ.1
      walk_at "zz"
      refine z_rapp gPQ (szlt (by omega)) (hD _ _ ?_)
      have bD : But [P] HQ (upd HQ P (.lst (vs ++ [u]))) := But.put (by simp)
      have lP : ∀ x ∈ [P], ∃ xs, HQ x = some (.lst xs) := fun x hx => by
        rw [List.mem_singleton.mp hx]
        exact ⟨_, gPQ⟩
      have ptsD := ptsQ.bu bD lP
      have paD := pa.bu bD lP
      rw [hPv]
      have hnm : pt.name = z := made.nm_
      have hps : pt.params = ps := made.ps_
      have PUt := made.pu ypu (nmN z (List.mem_of_getElem? hz)) lps nps
      refine ⟨_, _, y ++ [pt], vs ++ [u], c3, rfl, upd_same, ⟨by simp; omega, fun i v' pt' hv hp => ?_⟩, by simp; omega, ?_, fun i pt' hp hi => ?_, fun i pt' hp => ?_, fun pt' hp => ?_, drQ.bu (B := [P]) (by simp [d0]) (fun y hy => by rw [List.mem_singleton.mp hy]; exact sP) bD, by omega, ((bH.trans (But.ex xx)).trans b).mut P0, ((b5.trans (But.ex xx)).trans (b.mono (by simp))).trans (bD.mono (by simp))⟩
      · by_cases hl : i < vs.length
        · rw [List.getElem?_append_left hl] at hv
          rw [List.getElem?_append_left (by omega)] at hp
          exact ptsD.2 i v' pt' hv hp
        · rw [List.getElem?_append_right (by omega)] at hv
          rw [List.getElem?_append_right (by omega)] at hp
          have h0 : i - vs.length = 0 := by
            cases hh : i - vs.length with
            | zero => rfl
            | succ m => rw [hh] at hv; simp at hv
          rw [h0] at hv
          rw [show i - y.length = 0 by omega] at hp
          cases hv
          cases hp
          exact paD
      · rw [List.map_append, ynm, take_snoc hz, ← hnm] <;> rfl
      · by_cases hl : i < y.length
        · rw [List.getElem?_append_left hl] at hp
          exact ymain i pt' hp hi
        · rw [List.getElem?_append_right (by omega)] at hp
          have h0 : i - y.length = 0 := by
            cases hh : i - y.length with
            | zero => rfl
            | succ m => rw [hh] at hp; simp at hp
          rw [h0] at hp
          cases hp
          rw [hps]
          exact hlast (by omega)
      · by_cases hl : i < y.length
        · rw [List.getElem?_append_left hl] at hp
          rw [List.take_append_of_le_length (by omega)]
          exact ymd i pt' hp
        · rw [List.getElem?_append_right (by omega)] at hp
          have h0 : i - y.length = 0 := by
            cases hh : i - y.length with
            | zero => rfl
            | succ m => rw [hh] at hp; simp at hp
          rw [h0] at hp
          cases hp
          rw [show i = y.length by omega, List.take_left]
          refine ⟨_, hds, hr, sts, ?_, permN.nodup_iff.mpr nN, by rw [permN.length_eq]; exact lN, fun w hw => nmN w (permN.mem_iff.mp hw)⟩
          rw [hnm, hps]
          exact made
      · rcases List.mem_append.mp hp with hp | hp
        · exact ypu pt' hp
        · rw [List.mem_singleton.mp hp]
          exact PUt
    walk_at "zz"
    refine ite_b (fun hlt => ?_) (fun hge => ?_)
    · have hlt := of_decide_eq_true hlt
      walk_at "zz"
      refine ⟨d, a, ns, c, rfl, dr, by omega, fun x2 HP x20 x21 drP bP => ?_⟩
      obtain ⟨m2, hm2⟩ := Int.eq_ofNat_of_zero_le (show 0 ≤ x2 % 3 by omega)
      have gNP := bj5.trans (bP.mono (by simp)) _ _ (by simp [nd, n0]) gN5
      walk_at "zz"
      rw [show (4 : Int) + x2 % 3 = ((4 + m2 : Nat) : Int) by omega]
      refine z_slL (sq_of gNP) fun p1 hp1 => ?_
      have x1 := Ex.new (o := .lst (cutV (N.map V.str) (some 4) (some ((4 + m2 : Nat) : Int)))) hp1
      have y1 : upd HP p1 (.lst (cutV (N.map V.str) (some 4) (some ((4 + m2 : Nat) : Int)))) p1 = some (.lst (((N.drop 4).take m2).map V.str)) := by
        rw [upd_same]
        have := cut_mid (zs := N) (i := 4) (j := 4 + m2) ⟨by omega, by omega⟩
        rw [show 4 + m2 - 4 = m2 by omega] at this
        exact congrArg (fun z => some (HO.lst z)) this
      refine main { nx := Pv (j + 1), rt := Q, bk := Pv (j + 1), ct := Pv (j + 1) } _ p1 ((N.drop 4).take m2) (c + 1) ?_ y1 (by rw [List.length_take]; omega) (fun z hz => nmN z (List.mem_of_mem_drop (List.mem_of_mem_take hz))) (some_ne drP.1 hp1).symm (fun h => by omega) (drP.ex x1) (Nat.le_refl _) (bP.trans (But.ex x1))
      exact fun _ _ h => h
    · have hge := of_decide_eq_false hge
      walk_at "zz"
      refine ⟨szl (by simp), fun p1 hp1 => ?_⟩
      have x1 := Ex.new (o := .lst []) hp1
      refine main { nx := Pv (j + 1), rt := Q, bk := Pv (j + 1), ct := Pv (j + 1) } _ p1 [] c ?_ upd_same (by decide) (fun z hz => by cases hz) (some_ne dr.1 hp1).symm (fun _ => rfl) (dr.ex x1) (by omega) (But.ex x1)
      exact fun _ _ h => h
  rw [hPv] at h
  obtain ⟨y5, y6, y, vs, c, rfl, gPj, pts, ly, ynm, ymain, ymd, ypu, dr, hc, bj, bj5⟩ := h
  have ly' : y.length = mm := ly
  have ynm' : y.map Y.Part.name = N.take mm := ynm
  walk_at "zz"
  refine ⟨_, _, rfl, .inl ⟨sq_of gPj, fun l hl => ?_⟩⟩
  have e9 := Ex.new (o := .tup vs) hl
  refine q l _ y vs ⟨by omega, by rw [ynm']; exact List.Sublist.nodup (List.take_sublist _ _) nN, fun i pt h hi => ymain i pt h (by omega), ymd, ypu⟩ upd_same (pts.bu (B := []) (But.ex e9) (fun _ h => by cases h)) ((bj.exOf fun b hb => by rw [List.mem_singleton.mp hb]; exact fd).trans e9)
theorem vr_kids_of (vs H Q E) (h : sp_kids_of K vs H Q E) : (rd_kids_of K) { nx := fun _ H' => Q .non H', rt := Q } (start ["term", "kind"] vs) H := by
  obtain ⟨v, t, rfl, tv, q⟩ := h
  unfold rd_kids_of
  cases t with
  | num n w =>
    obtain ⟨b0, x0, x1, x2, rfl, hb, y0, y1, y2⟩ := tu3 tv
    cases tu_str y0
    walk_at "zz"
    refine z_ixT (st_of hb) (show atI _ ((0 : Nat) : Int) = _ from atI_nat rfl) ?_
    walk_at "zz"
    refine ⟨szl (by simp), fun c1 hc1 => ?_⟩
    have e1 := Ex.new (o := .tup [V.str (Str.ofString "not"), V.str (Str.ofString "cut"), V.str (Str.ofString "fill")]) hc1
    have hb1 := e1 _ _ hb
    refine z_inT (st_of upd_same) rfl rfl ?_
    rw [show (if false = true then !inV (.str (Str.ofString "number")) [.str (Str.ofString "not"), .str (Str.ofString "cut"), .str (Str.ofString "fill")] else inV (.str (Str.ofString "number")) [.str (Str.ofString "not"), .str (Str.ofString "cut"), .str (Str.ofString "fill")]) = false from by decide +kernel]
    generalize upd H c1 _ = H1 at e1 hb1 ⊢
    walk_at "zz"
    try (rw [kw_dec (a := Str.ofString "number") (b := Str.ofString "at") (by decide +kernel)]; refine ite_f ?_; walk_at "zz")
    try (rw [kw_dec (a := Str.ofString "number") (b := Str.ofString "two") (by decide +kernel)]; refine ite_f ?_; walk_at "zz")
    try (rw [kw_dec (a := Str.ofString "number") (b := Str.ofString "join") (by decide +kernel)]; refine ite_f ?_; walk_at "zz")
    try (rw [kw_dec (a := Str.ofString "number") (b := Str.ofString "pick") (by decide +kernel)]; refine ite_f ?_; walk_at "zz")
    refine ⟨szl (by simp), fun r hr => ?_⟩
    exact q r _ _ (ex_none e1 hr) (e1.trans (Ex.new hr)) upd_same (.nil)
  | name x =>
    obtain ⟨b0, x0, x1, rfl, hb, y0, y1⟩ := tu2 tv
    cases tu_str y0
    walk_at "zz"
    refine z_ixT (st_of hb) (show atI _ ((0 : Nat) : Int) = _ from atI_nat rfl) ?_
    walk_at "zz"
    refine ⟨szl (by simp), fun c1 hc1 => ?_⟩
    have e1 := Ex.new (o := .tup [V.str (Str.ofString "not"), V.str (Str.ofString "cut"), V.str (Str.ofString "fill")]) hc1
    have hb1 := e1 _ _ hb
    refine z_inT (st_of upd_same) rfl rfl ?_
    rw [show (if false = true then !inV (.str (Str.ofString "name")) [.str (Str.ofString "not"), .str (Str.ofString "cut"), .str (Str.ofString "fill")] else inV (.str (Str.ofString "name")) [.str (Str.ofString "not"), .str (Str.ofString "cut"), .str (Str.ofString "fill")]) = false from by decide +kernel]
    generalize upd H c1 _ = H1 at e1 hb1 ⊢
    walk_at "zz"
    try (rw [kw_dec (a := Str.ofString "name") (b := Str.ofString "at") (by decide +kernel)]; refine ite_f ?_; walk_at "zz")
    try (rw [kw_dec (a := Str.ofString "name") (b := Str.ofString "two") (by decide +kernel)]; refine ite_f ?_; walk_at "zz")
    try (rw [kw_dec (a := Str.ofString "name") (b := Str.ofString "join") (by decide +kernel)]; refine ite_f ?_; walk_at "zz")
    try (rw [kw_dec (a := Str.ofString "name") (b := Str.ofString "pick") (by decide +kernel)]; refine ite_f ?_; walk_at "zz")
    refine ⟨szl (by simp), fun r hr => ?_⟩
    exact q r _ _ (ex_none e1 hr) (e1.trans (Ex.new hr)) upd_same (.nil)
  | of_ u d =>
    obtain ⟨b0, x0, x1, x2, rfl, hb, y0, y1, y2⟩ := tu3 tv
    cases tu_str y0
    walk_at "zz"
    refine z_ixT (st_of hb) (show atI _ ((0 : Nat) : Int) = _ from atI_nat rfl) ?_
    walk_at "zz"
    refine ⟨szl (by simp), fun c1 hc1 => ?_⟩
    have e1 := Ex.new (o := .tup [V.str (Str.ofString "not"), V.str (Str.ofString "cut"), V.str (Str.ofString "fill")]) hc1
    have hb1 := e1 _ _ hb
    refine z_inT (st_of upd_same) rfl rfl ?_
    rw [show (if false = true then !inV (.str (Str.ofString "of")) [.str (Str.ofString "not"), .str (Str.ofString "cut"), .str (Str.ofString "fill")] else inV (.str (Str.ofString "of")) [.str (Str.ofString "not"), .str (Str.ofString "cut"), .str (Str.ofString "fill")]) = false from by decide +kernel]
    generalize upd H c1 _ = H1 at e1 hb1 ⊢
    walk_at "zz"
    try (rw [kw_dec (a := Str.ofString "of") (b := Str.ofString "at") (by decide +kernel)]; refine ite_f ?_; walk_at "zz")
    try (rw [kw_dec (a := Str.ofString "of") (b := Str.ofString "two") (by decide +kernel)]; refine ite_f ?_; walk_at "zz")
    try (rw [kw_dec (a := Str.ofString "of") (b := Str.ofString "join") (by decide +kernel)]; refine ite_f ?_; walk_at "zz")
    try (rw [kw_dec (a := Str.ofString "of") (b := Str.ofString "pick") (by decide +kernel)]; refine ite_f ?_; walk_at "zz")
    refine ⟨szl (by simp), fun r hr => ?_⟩
    exact q r _ _ (ex_none e1 hr) (e1.trans (Ex.new hr)) upd_same (.nil)
  | at_ s t =>
    obtain ⟨b0, x0, x1, x2, rfl, hb, y0, y1, y2⟩ := tu3 tv
    cases tu_str y0
    walk_at "zz"
    refine z_ixT (st_of hb) (show atI _ ((0 : Nat) : Int) = _ from atI_nat rfl) ?_
    walk_at "zz"
    refine ⟨szl (by simp), fun c1 hc1 => ?_⟩
    have e1 := Ex.new (o := .tup [V.str (Str.ofString "not"), V.str (Str.ofString "cut"), V.str (Str.ofString "fill")]) hc1
    have hb1 := e1 _ _ hb
    refine z_inT (st_of upd_same) rfl rfl ?_
    rw [show (if false = true then !inV (.str (Str.ofString "at")) [.str (Str.ofString "not"), .str (Str.ofString "cut"), .str (Str.ofString "fill")] else inV (.str (Str.ofString "at")) [.str (Str.ofString "not"), .str (Str.ofString "cut"), .str (Str.ofString "fill")]) = false from by decide +kernel]
    generalize upd H c1 _ = H1 at e1 hb1 ⊢
    walk_at "zz"
    try (rw [show decide (V.str (Str.ofString "at") = V.str (Str.ofString "at")) = true from decide_eq_true rfl]; refine ite_t ?_; walk_at "zz")
    refine z_ixT (st_of hb1) (show atI _ ((2 : Nat) : Int) = _ from atI_nat rfl) ?_
    walk_at "zz"
    refine ⟨szl (by simp), fun r hr => ?_⟩
    exact q r _ _ (ex_none e1 hr) (e1.trans (Ex.new hr)) upd_same (.cons ((y2.ex e1).ex (Ex.new hr)) .nil)
  | not_ t =>
    obtain ⟨b0, x0, x1, rfl, hb, y0, y1⟩ := tu2 tv
    cases tu_str y0
    walk_at "zz"
    refine z_ixT (st_of hb) (show atI _ ((0 : Nat) : Int) = _ from atI_nat rfl) ?_
    walk_at "zz"
    refine ⟨szl (by simp), fun c1 hc1 => ?_⟩
    have e1 := Ex.new (o := .tup [V.str (Str.ofString "not"), V.str (Str.ofString "cut"), V.str (Str.ofString "fill")]) hc1
    have hb1 := e1 _ _ hb
    refine z_inT (st_of upd_same) rfl rfl ?_
    rw [show (if false = true then !inV (.str (Str.ofString "not")) [.str (Str.ofString "not"), .str (Str.ofString "cut"), .str (Str.ofString "fill")] else inV (.str (Str.ofString "not")) [.str (Str.ofString "not"), .str (Str.ofString "cut"), .str (Str.ofString "fill")]) = true from by decide +kernel]
    generalize upd H c1 _ = H1 at e1 hb1 ⊢
    walk_at "zz"
    refine z_ixT (st_of hb1) (show atI _ ((1 : Nat) : Int) = _ from atI_nat rfl) ?_
    walk_at "zz"
    refine ⟨szl (by simp), fun r hr => ?_⟩
    exact q r _ _ (ex_none e1 hr) (e1.trans (Ex.new hr)) upd_same (.cons ((y1.ex e1).ex (Ex.new hr)) .nil)
  | two s a b =>
    obtain ⟨b0, x0, x1, x2, x3, rfl, hb, y0, y1, y2, y3⟩ := tu4 tv
    cases tu_str y0
    walk_at "zz"
    refine z_ixT (st_of hb) (show atI _ ((0 : Nat) : Int) = _ from atI_nat rfl) ?_
    walk_at "zz"
    refine ⟨szl (by simp), fun c1 hc1 => ?_⟩
    have e1 := Ex.new (o := .tup [V.str (Str.ofString "not"), V.str (Str.ofString "cut"), V.str (Str.ofString "fill")]) hc1
    have hb1 := e1 _ _ hb
    refine z_inT (st_of upd_same) rfl rfl ?_
    rw [show (if false = true then !inV (.str (Str.ofString "two")) [.str (Str.ofString "not"), .str (Str.ofString "cut"), .str (Str.ofString "fill")] else inV (.str (Str.ofString "two")) [.str (Str.ofString "not"), .str (Str.ofString "cut"), .str (Str.ofString "fill")]) = false from by decide +kernel]
    generalize upd H c1 _ = H1 at e1 hb1 ⊢
    walk_at "zz"
    try (rw [kw_dec (a := Str.ofString "two") (b := Str.ofString "at") (by decide +kernel)]; refine ite_f ?_; walk_at "zz")
    try (rw [show decide (V.str (Str.ofString "two") = V.str (Str.ofString "two")) = true from decide_eq_true rfl]; refine ite_t ?_; walk_at "zz")
    refine z_ixT (st_of hb1) (show atI _ ((2 : Nat) : Int) = _ from atI_nat rfl) ?_
    walk_at "zz"
    refine z_ixT (st_of hb1) (show atI _ ((3 : Nat) : Int) = _ from atI_nat rfl) ?_
    walk_at "zz"
    refine ⟨szl (by simp), fun r hr => ?_⟩
    exact q r _ _ (ex_none e1 hr) (e1.trans (Ex.new hr)) upd_same (.cons ((y2.ex e1).ex (Ex.new hr)) (.cons ((y3.ex e1).ex (Ex.new hr)) .nil))
  | pick a b c =>
    obtain ⟨b0, x0, x1, x2, x3, rfl, hb, y0, y1, y2, y3⟩ := tu4 tv
    cases tu_str y0
    walk_at "zz"
    refine z_ixT (st_of hb) (show atI _ ((0 : Nat) : Int) = _ from atI_nat rfl) ?_
    walk_at "zz"
    refine ⟨szl (by simp), fun c1 hc1 => ?_⟩
    have e1 := Ex.new (o := .tup [V.str (Str.ofString "not"), V.str (Str.ofString "cut"), V.str (Str.ofString "fill")]) hc1
    have hb1 := e1 _ _ hb
    refine z_inT (st_of upd_same) rfl rfl ?_
    rw [show (if false = true then !inV (.str (Str.ofString "pick")) [.str (Str.ofString "not"), .str (Str.ofString "cut"), .str (Str.ofString "fill")] else inV (.str (Str.ofString "pick")) [.str (Str.ofString "not"), .str (Str.ofString "cut"), .str (Str.ofString "fill")]) = false from by decide +kernel]
    generalize upd H c1 _ = H1 at e1 hb1 ⊢
    walk_at "zz"
    try (rw [kw_dec (a := Str.ofString "pick") (b := Str.ofString "at") (by decide +kernel)]; refine ite_f ?_; walk_at "zz")
    try (rw [kw_dec (a := Str.ofString "pick") (b := Str.ofString "two") (by decide +kernel)]; refine ite_f ?_; walk_at "zz")
    try (rw [kw_dec (a := Str.ofString "pick") (b := Str.ofString "join") (by decide +kernel)]; refine ite_f ?_; walk_at "zz")
    try (rw [show decide (V.str (Str.ofString "pick") = V.str (Str.ofString "pick")) = true from decide_eq_true rfl]; refine ite_t ?_; walk_at "zz")
    refine z_ixT (st_of hb1) (show atI _ ((1 : Nat) : Int) = _ from atI_nat rfl) ?_
    walk_at "zz"
    refine z_ixT (st_of hb1) (show atI _ ((2 : Nat) : Int) = _ from atI_nat rfl) ?_
    walk_at "zz"
    refine z_ixT (st_of hb1) (show atI _ ((3 : Nat) : Int) = _ from atI_nat rfl) ?_
    walk_at "zz"
    refine ⟨szl (by simp), fun r hr => ?_⟩
    exact q r _ _ (ex_none e1 hr) (e1.trans (Ex.new hr)) upd_same (.cons ((y1.ex e1).ex (Ex.new hr)) (.cons ((y2.ex e1).ex (Ex.new hr)) (.cons ((y3.ex e1).ex (Ex.new hr)) .nil)))
  | cut t l w =>
    obtain ⟨b0, x0, x1, x2, x3, rfl, hb, y0, y1, y2, y3⟩ := tu4 tv
    cases tu_str y0
    walk_at "zz"
    refine z_ixT (st_of hb) (show atI _ ((0 : Nat) : Int) = _ from atI_nat rfl) ?_
    walk_at "zz"
    refine ⟨szl (by simp), fun c1 hc1 => ?_⟩
    have e1 := Ex.new (o := .tup [V.str (Str.ofString "not"), V.str (Str.ofString "cut"), V.str (Str.ofString "fill")]) hc1
    have hb1 := e1 _ _ hb
    refine z_inT (st_of upd_same) rfl rfl ?_
    rw [show (if false = true then !inV (.str (Str.ofString "cut")) [.str (Str.ofString "not"), .str (Str.ofString "cut"), .str (Str.ofString "fill")] else inV (.str (Str.ofString "cut")) [.str (Str.ofString "not"), .str (Str.ofString "cut"), .str (Str.ofString "fill")]) = true from by decide +kernel]
    generalize upd H c1 _ = H1 at e1 hb1 ⊢
    walk_at "zz"
    refine z_ixT (st_of hb1) (show atI _ ((1 : Nat) : Int) = _ from atI_nat rfl) ?_
    walk_at "zz"
    refine ⟨szl (by simp), fun r hr => ?_⟩
    exact q r _ _ (ex_none e1 hr) (e1.trans (Ex.new hr)) upd_same (.cons ((y1.ex e1).ex (Ex.new hr)) .nil)
  | join a b =>
    obtain ⟨b0, x0, x1, x2, rfl, hb, y0, y1, y2⟩ := tu3 tv
    cases tu_str y0
    walk_at "zz"
    refine z_ixT (st_of hb) (show atI _ ((0 : Nat) : Int) = _ from atI_nat rfl) ?_
    walk_at "zz"
    refine ⟨szl (by simp), fun c1 hc1 => ?_⟩
    have e1 := Ex.new (o := .tup [V.str (Str.ofString "not"), V.str (Str.ofString "cut"), V.str (Str.ofString "fill")]) hc1
    have hb1 := e1 _ _ hb
    refine z_inT (st_of upd_same) rfl rfl ?_
    rw [show (if false = true then !inV (.str (Str.ofString "join")) [.str (Str.ofString "not"), .str (Str.ofString "cut"), .str (Str.ofString "fill")] else inV (.str (Str.ofString "join")) [.str (Str.ofString "not"), .str (Str.ofString "cut"), .str (Str.ofString "fill")]) = false from by decide +kernel]
    generalize upd H c1 _ = H1 at e1 hb1 ⊢
    walk_at "zz"
    try (rw [kw_dec (a := Str.ofString "join") (b := Str.ofString "at") (by decide +kernel)]; refine ite_f ?_; walk_at "zz")
    try (rw [kw_dec (a := Str.ofString "join") (b := Str.ofString "two") (by decide +kernel)]; refine ite_f ?_; walk_at "zz")
    try (rw [show decide (V.str (Str.ofString "join") = V.str (Str.ofString "join")) = true from decide_eq_true rfl]; refine ite_t ?_; walk_at "zz")
    refine z_ixT (st_of hb1) (show atI _ ((1 : Nat) : Int) = _ from atI_nat rfl) ?_
    walk_at "zz"
    refine z_ixT (st_of hb1) (show atI _ ((2 : Nat) : Int) = _ from atI_nat rfl) ?_
    walk_at "zz"
    refine ⟨szl (by simp), fun r hr => ?_⟩
    exact q r _ _ (ex_none e1 hr) (e1.trans (Ex.new hr)) upd_same (.cons ((y1.ex e1).ex (Ex.new hr)) (.cons ((y2.ex e1).ex (Ex.new hr)) .nil))
  | fill t w =>
    obtain ⟨b0, x0, x1, x2, rfl, hb, y0, y1, y2⟩ := tu3 tv
    cases tu_str y0
    walk_at "zz"
    refine z_ixT (st_of hb) (show atI _ ((0 : Nat) : Int) = _ from atI_nat rfl) ?_
    walk_at "zz"
    refine ⟨szl (by simp), fun c1 hc1 => ?_⟩
    have e1 := Ex.new (o := .tup [V.str (Str.ofString "not"), V.str (Str.ofString "cut"), V.str (Str.ofString "fill")]) hc1
    have hb1 := e1 _ _ hb
    refine z_inT (st_of upd_same) rfl rfl ?_
    rw [show (if false = true then !inV (.str (Str.ofString "fill")) [.str (Str.ofString "not"), .str (Str.ofString "cut"), .str (Str.ofString "fill")] else inV (.str (Str.ofString "fill")) [.str (Str.ofString "not"), .str (Str.ofString "cut"), .str (Str.ofString "fill")]) = true from by decide +kernel]
    generalize upd H c1 _ = H1 at e1 hb1 ⊢
    walk_at "zz"
    refine z_ixT (st_of hb1) (show atI _ ((1 : Nat) : Int) = _ from atI_nat rfl) ?_
    walk_at "zz"
    refine ⟨szl (by simp), fun r hr => ?_⟩
    exact q r _ _ (ex_none e1 hr) (e1.trans (Ex.new hr)) upd_same (.cons ((y1.ex e1).ex (Ex.new hr)) .nil)
/-- the kind of a term -/
def kd : Trm → Str
  | .num .. => Str.ofString "number"
  | .name _ => Str.ofString "name"
  | .of_ .. => Str.ofString "of"
  | .at_ .. => Str.ofString "at"
  | .not_ _ => Str.ofString "not"
  | .two .. => Str.ofString "two"
  | .pick .. => Str.ofString "pick"
  | .cut .. => Str.ofString "cut"
  | .join .. => Str.ofString "join"
  | .fill .. => Str.ofString "fill"
theorem tu_trm {H : Hp} {v : V} {t : Trm} (h : Tu H v t.d) : ∃ b rest, v = .ref b ∧ H b = some (.tup (.str (kd t) :: rest)) := by
  have : ∃ r, t.d = .tuple (.str (kd t) :: r) := by cases t <;> exact ⟨_, rfl⟩
  obtain ⟨r, e⟩ := this
  rw [e] at h
  obtain ⟨a, vs, rfl, ha, tt⟩ := tu_tup h
  cases tt with
  | cons t1 r =>
    cases tu_str t1
    exact ⟨a, _, rfl, ha⟩
theorem t_split (t : Trm) : (∃ x, t = .name x) ∨ (∃ u d, t = .of_ u d) ∨ (decide (V.str (kd t) = V.str (Str.ofString "name")) = false ∧ decide (V.str (kd t) = V.str (Str.ofString "of")) = false ∧ t.names = t.kids.flatMap Trm.names) := by
  have nn : ∀ {a b : Str}, decide (a = Str.ofString "name") = false → decide (a = Str.ofString "of") = false → decide (V.str a = V.str (Str.ofString "name")) = false ∧ decide (V.str a = V.str (Str.ofString "of")) = false := fun h1 h2 => ⟨kw_dec h1, kw_dec h2⟩
  cases t with
  | name x => exact .inl ⟨x, rfl⟩
  | of_ u d => exact .inr (.inl ⟨u, d, rfl⟩)
  | num n w => exact .inr (.inr ⟨kw_dec (a := Str.ofString "number") (by decide +kernel), kw_dec (a := Str.ofString "number") (by decide +kernel), rfl⟩)
  | at_ s t => exact .inr (.inr ⟨kw_dec (a := Str.ofString "at") (by decide +kernel), kw_dec (a := Str.ofString "at") (by decide +kernel), by simp [Trm.names, Trm.kids]⟩)
  | not_ t => exact .inr (.inr ⟨kw_dec (a := Str.ofString "not") (by decide +kernel), kw_dec (a := Str.ofString "not") (by decide +kernel), by simp [Trm.names, Trm.kids]⟩)
  | two s a b => exact .inr (.inr ⟨kw_dec (a := Str.ofString "two") (by decide +kernel), kw_dec (a := Str.ofString "two") (by decide +kernel), by simp [Trm.names, Trm.kids]⟩)
  | pick a b c => exact .inr (.inr ⟨kw_dec (a := Str.ofString "pick") (by decide +kernel), kw_dec (a := Str.ofString "pick") (by decide +kernel), by simp [Trm.names, Trm.kids]⟩)
  | cut t l w => exact .inr (.inr ⟨kw_dec (a := Str.ofString "cut") (by decide +kernel), kw_dec (a := Str.ofString "cut") (by decide +kernel), by simp [Trm.names, Trm.kids]⟩)
  | join a b => exact .inr (.inr ⟨kw_dec (a := Str.ofString "join") (by decide +kernel), kw_dec (a := Str.ofString "join") (by decide +kernel), by simp [Trm.names, Trm.kids]⟩)
  | fill t w => exact .inr (.inr ⟨kw_dec (a := Str.ofString "fill") (by decide +kernel), kw_dec (a := Str.ofString "fill") (by decide +kernel), by simp [Trm.names, Trm.kids]⟩)
theorem kid_deep {t k : Trm} (h : k ∈ t.kids) : k.deep < t.deep := by
  cases t <;> simp only [Trm.kids, List.mem_cons, List.not_mem_nil, or_false] at h <;> simp only [Trm.deep] <;> (try (rcases h with rfl | rfl | rfl <;> omega)) <;> (try (rcases h with rfl | rfl <;> omega)) <;> (try (subst h; omega))
theorem kid_ok {ps : List Str} {t k : Trm} (o : t.ok ps) (h : k ∈ t.kids) : k.ok ps := by
  cases t with
  | num => cases h
  | name => cases h
  | of_ => cases h
  | at_ s t => rw [List.mem_singleton.mp h]; exact o.2
  | not_ t => rw [List.mem_singleton.mp h]; exact o
  | two s a b =>
    simp only [Trm.kids, List.mem_cons, List.not_mem_nil, or_false] at h
    rcases h with rfl | rfl
    · exact o.2.1
    · exact o.2.2
  | pick a b c =>
    simp only [Trm.kids, List.mem_cons, List.not_mem_nil, or_false] at h
    rcases h with rfl | rfl | rfl
    · exact o.1
    · exact o.2.1
    · exact o.2.2
  | cut t l w => rw [List.mem_singleton.mp h]; exact o.1
  | join a b =>
    simp only [Trm.kids, List.mem_cons, List.not_mem_nil, or_false] at h
    rcases h with rfl | rfl
    · exact o.1
    · exact o.2
  | fill t w => rw [List.mem_singleton.mp h]; exact o.1
theorem names_len : ∀ t : Trm, t.names.length ≤ 3 ^ t.deep
  | .num .. => Nat.zero_le _
  | .name _ => by show 1 ≤ 3 ^ 1; decide
  | .of_ .. => by show 1 ≤ 3 ^ 1; decide
  | .at_ _ t => by
    have := names_len t
    show t.names.length ≤ 3 ^ (t.deep + 1)
    rw [Nat.pow_succ]
    omega
  | .not_ t => by
    have := names_len t
    show t.names.length ≤ 3 ^ (t.deep + 1)
    rw [Nat.pow_succ]
    omega
  | .cut t _ _ => by
    have := names_len t
    show t.names.length ≤ 3 ^ (t.deep + 1)
    rw [Nat.pow_succ]
    omega
  | .fill t _ => by
    have := names_len t
    show t.names.length ≤ 3 ^ (t.deep + 1)
    rw [Nat.pow_succ]
    omega
  | .two _ a b => by
    have h1 := names_len a
    have h2 := names_len b
    have p1 := Nat.pow_le_pow_right (show 0 < 3 by decide) (Nat.le_max_left a.deep b.deep)
    have p2 := Nat.pow_le_pow_right (show 0 < 3 by decide) (Nat.le_max_right a.deep b.deep)
    show (a.names ++ b.names).length ≤ 3 ^ (max a.deep b.deep + 1)
    rw [List.length_append, Nat.pow_succ]
    omega
  | .join a b => by
    have h1 := names_len a
    have h2 := names_len b
    have p1 := Nat.pow_le_pow_right (show 0 < 3 by decide) (Nat.le_max_left a.deep b.deep)
    have p2 := Nat.pow_le_pow_right (show 0 < 3 by decide) (Nat.le_max_right a.deep b.deep)
    show (a.names ++ b.names).length ≤ 3 ^ (max a.deep b.deep + 1)
    rw [List.length_append, Nat.pow_succ]
    omega
  | .pick a b c => by
    have h1 := names_len a
    have h2 := names_len b
    have h3 := names_len c
    have p1 := Nat.pow_le_pow_right (show 0 < 3 by decide) (Nat.le_max_left a.deep (max b.deep c.deep))
    have p2 := Nat.pow_le_pow_right (show 0 < 3 by decide) (Nat.le_trans (Nat.le_max_left b.deep c.deep) (Nat.le_max_right a.deep (max b.deep c.deep)))
    have p3 := Nat.pow_le_pow_right (show 0 < 3 by decide) (Nat.le_trans (Nat.le_max_right b.deep c.deep) (Nat.le_max_right a.deep (max b.deep c.deep)))
    show (a.names ++ b.names ++ c.names).length ≤ 3 ^ (max a.deep (max b.deep c.deep) + 1)
    rw [List.length_append, List.length_append, Nat.pow_succ]
    omega
theorem no_p_names_in : ∀ vs H Q E, ¬ sp_p_names_in K 0 vs H Q E := fun vs H Q E h => by
  obtain ⟨_, _, _, _, _, h, _⟩ := h
  omega
theorem flat_take_len {l : List Trm} (j : Nat) : ((l.take j).flatMap Trm.names).length ≤ (l.flatMap Trm.names).length := by
  conv => rhs; rw [← List.take_append_drop j l]
  rw [List.flatMap_append, List.length_append]
  omega
theorem vr_p_names_in (n : Nat) (vs H Q E) (h : sp_p_names_in K (n + 1) vs H Q E) : (rd_p_names_in K (sp_p_names_in K n)) { nx := fun _ H' => Q .non H', rt := Q } (start ["term", "names", "kid"] vs) H := by
  obtain ⟨v, t, ps, rfl, tv, ⟨ok, hd, hn⟩, q⟩ := h
  unfold rd_p_names_in
  rcases t_split t with ⟨x, rfl⟩ | ⟨u, d, rfl⟩ | ⟨h1, h2, h3⟩
  · obtain ⟨b0, x0, x1, rfl, hb, y0, y1⟩ := tu2 tv
    cases tu_str y0
    cases tu_str y1
    walk_at "zz"
    refine z_ixT (st_of hb) (show atI _ ((0 : Nat) : Int) = _ from atI_nat rfl) ?_
    walk_at "zz"
    try (rw [show decide (V.str (Str.ofString "name") = V.str (Str.ofString "name")) = true from decide_eq_true rfl]; refine ite_t ?_; walk_at "zz")
    refine z_ixT (st_of hb) (show atI _ ((1 : Nat) : Int) = _ from atI_nat rfl) ?_
    walk_at "zz"
    refine ⟨szl (by simp), fun r hr => ?_⟩
    exact RetL.go q (Ex.refl H) hr (Ex.new hr) upd_same
  · obtain ⟨b0, x0, x1, x2, rfl, hb, y0, y1, y2⟩ := tu3 tv
    cases tu_str y0
    cases tu_str y1
    cases tu_str y2
    obtain ⟨nu, ndd⟩ := ok
    walk_at "zz"
    refine z_ixT (st_of hb) (show atI _ ((0 : Nat) : Int) = _ from atI_nat rfl) ?_
    walk_at "zz"
    try (rw [kw_dec (a := Str.ofString "of") (b := Str.ofString "name") (by decide +kernel)]; refine ite_f ?_; walk_at "zz")
    refine z_ixT (st_of hb) (show atI _ ((0 : Nat) : Int) = _ from atI_nat rfl) ?_
    walk_at "zz"
    try (rw [show decide (V.str (Str.ofString "of") = V.str (Str.ofString "of")) = true from decide_eq_true rfl]; refine ite_t ?_; walk_at "zz")
    refine z_ixT (st_of hb) (show atI _ ((1 : Nat) : Int) = _ from atI_nat rfl) ?_
    walk_at "zz"
    have o1 := nu.ok.app (okT.of "." (n := 1) (by decide +kernel))
    refine z_addS (by rw [← txt_app_len]; exact o1.sz (by decide)) ?_
    walk_at "zz"
    refine z_ixT (st_of hb) (show atI _ ((2 : Nat) : Int) = _ from atI_nat rfl) ?_
    refine z_addS (by rw [← txt_app_len]; exact (o1.app ndd.ok).sz (by decide)) ?_
    walk_at "zz"
    refine ⟨szl (by simp), fun r hr => ?_⟩
    exact RetL.go q (Ex.refl H) hr (Ex.new hr) upd_same
  · obtain ⟨b0, rest, rfl, hb⟩ := tu_trm tv
    have hp7 : 3 ^ t.deep ≤ 3 ^ 7 := Nat.pow_le_pow_right (by decide) (by omega)
    have nl := names_len t
    walk_at "zz"
    refine z_ixT (st_of hb) (show atI _ ((0 : Nat) : Int) = _ from atI_nat rfl) ?_
    walk_at "zz"
    rw [h1]
    refine ite_f ?_
    walk_at "zz"
    refine z_ixT (st_of hb) (show atI _ ((0 : Nat) : Int) = _ from atI_nat rfl) ?_
    walk_at "zz"
    rw [h2]
    refine ite_f ?_
    walk_at "zz"
    refine ⟨szl (by simp), fun R hR => ?_⟩
    have eR := Ex.new (o := .lst []) hR
    walk_at "zz"
    refine ⟨.ref b0, t, rfl, tv.ex eR, fun r H2 us fr e2 gr tus => ?_⟩
    have gR : H2 R = some (.lst []) := e2 _ _ upd_same
    have nRr : R ≠ r := some_ne (show upd H R (.lst []) R = _ from upd_same) fr
    have lus := tus.len
    rw [List.length_map] at lus
    walk_at "zz"
    refine z_FL (sq_of gr) (fun j σ' H' => ∃ y2, σ' = [some (.ref b0), some (.ref R), y2] ∧ H' R = some (.lst (((t.kids.take j).flatMap Trm.names).map V.str)) ∧ But [R] H2 H') ⟨_, rfl, gR, But.refl⟩ (fun j σ' H' hj h => ?_) (fun j x σ' H' hj hx h => ?_) (fun σ' H' h => ?_)
    · obtain ⟨_, _, _, b⟩ := h
      exact sq_of (b _ _ (by simp [nRr.symm]) gr)
    · obtain ⟨y2, rfl, g, b⟩ := h
      obtain ⟨dd, hdd, tdd⟩ := tus.get hx
      rw [List.getElem?_map] at hdd
      obtain ⟨k, hk, rfl⟩ := Option.map_eq_some_iff.mp hdd
      have mk := List.mem_of_getElem? hk
      have tk : Tk H2 H' := .but b fun p hp => by
        rw [List.mem_singleton.mp hp]
        exact ⟨_, gR⟩
      walk_at "zz"
      refine z_tyl (sq_of g) ?_
      walk_at "zz"
      refine ⟨x, k, ps, rfl, tdd.mono tk, ⟨kid_ok ok mk, by have := kid_deep mk; omega, by omega⟩, fun p H3 fp e3 gp => ?_⟩
      have g3 := e3 _ _ g
      have l1 := flat_take_len (l := t.kids) (j + 1)
      rw [take_snoc hk, List.flatMap_append, List.length_append, ← h3] at l1
      have l2 : ([k].flatMap Trm.names).length = k.names.length := by simp
      refine ⟨R, p, _, _, rfl, rfl, g3, gp, Evl.sz_of (by rw [List.length_map, List.length_map]; omega), _, rfl, ?_, (b.trans (But.ex e3)).trans (But.put (by simp))⟩
      rw [upd_same, take_snoc hk, List.flatMap_append, List.map_append]
      simp
    obtain ⟨y2, rfl, g, b⟩ := h
    rw [lus, List.take_length, ← h3] at g
    walk_at "zz"
    exact q R H' hR (((But.ex (eR.trans e2) (B := [R])).trans b).exOf fun p hp => by rw [List.mem_singleton.mp hp]; exact hR) g
theorem inV_strs (z : Str) : ∀ L : List Str, inV (.str z) (L.map V.str) = decide (z ∈ L)
  | [] => rfl
  | y :: L => by
    have ih := inV_strs z L
    unfold inV at ih ⊢
    rw [List.map_cons, List.any_cons, ih]
    by_cases h : y = z
    · subst h
      have : eqV (.str y) (.str y) = true := by simp [eqV]
      rw [this]
      simp
    · have : eqV (.str y) (.str z) = false := by simp [eqV, h]
      rw [this, Bool.false_or]
      have h2 : ¬ z = y := fun e => h e.symm
      simp [h2]
theorem dd_snoc : ∀ (l : List Str) (acc : List Str) (x : Str), dd acc (l ++ [x]) = if x ∈ dd acc l then dd acc l else dd acc l ++ [x]
  | [], acc, x => rfl
  | y :: l, acc, x => dd_snoc l _ x
theorem dd_len : ∀ (l : List Str) (acc : List Str), (dd acc l).length ≤ acc.length + l.length
  | [], acc => Nat.le_refl _
  | y :: l, acc => by
    have := dd_len l (if y ∈ acc then acc else acc ++ [y])
    have h2 : (if y ∈ acc then acc else acc ++ [y]).length ≤ acc.length + 1 := by split <;> simp
    show (dd (if y ∈ acc then acc else acc ++ [y]) l).length ≤ acc.length + (l.length + 1)
    omega
theorem names_ok {ps : List Str} : ∀ {t : Trm}, t.ok ps → ∀ x ∈ t.names, okT x 41
  | .num .., _, x, h => by cases h
  | .name y, o, x, h => by
    rw [List.mem_singleton.mp h]
    exact (nmS.ok o).mono (by decide)
  | .of_ u d, o, x, h => by
    rw [List.mem_singleton.mp h]
    exact (o.1.ok.app (okT.of "." (n := 1) (by decide +kernel))).app o.2.ok
  | .at_ _ t, o, x, h => names_ok o.2 x h
  | .not_ t, o, x, h => names_ok (t := t) o x h
  | .cut t _ _, o, x, h => names_ok o.1 x h
  | .fill t _, o, x, h => names_ok o.1 x h
  | .two _ a b, o, x, h => by
    rcases List.mem_append.mp h with h | h
    · exact names_ok o.2.1 x h
    · exact names_ok o.2.2 x h
  | .join a b, o, x, h => by
    rcases List.mem_append.mp h with h | h
    · exact names_ok o.1 x h
    · exact names_ok o.2 x h
  | .pick a b c, o, x, h => by
    rcases List.mem_append.mp h with h | h
    · rcases List.mem_append.mp h with h | h
      · exact names_ok o.1 x h
      · exact names_ok o.2.1 x h
    · exact names_ok o.2.2 x h
theorem vr_p_asked_by (vs H Q E) (h : sp_p_asked_by K vs H Q E) : (rd_p_asked_by K) { nx := fun _ H' => Q .non H', rt := Q } (start ["term", "path", "names", "name"] vs) H := by
  obtain ⟨v, t, path, ps, rfl, tv, ⟨ok, hd, hps⟩, op, q⟩ := h
  unfold rd_p_asked_by
  have hp7 : 3 ^ t.deep ≤ 3 ^ 7 := Nat.pow_le_pow_right (by decide) (by omega)
  have nl := names_len t
  walk_at "zz"
  refine ⟨szl (by simp), fun R hR => ?_⟩
  have eR := Ex.new (o := .lst []) hR
  have gR : upd H R (.lst []) R = some (.lst []) := upd_same
  generalize upd H R _ = H1 at eR gR ⊢
  walk_at "zz"
  refine ⟨v, t, ps, rfl, tv.ex eR, ⟨ok, hd, Nat.le_refl _⟩, fun r H2 fr e2 gr => ?_⟩
  have gR2 := e2 _ _ gR
  have nRr : R ≠ r := some_ne gR fr
  walk_at "zz"
  refine z_FL (sq_of gr) (fun j σ' H' => ∃ y3, σ' = [some v, some (.str path), some (.ref R), y3] ∧ H' R = some (.lst ((dd [] ((t.names.take j).map fun x => path ++ x)).map V.str)) ∧ But [R] H2 H') ⟨_, rfl, gR2, But.refl⟩ (fun j σ' H' hj h => ?_) (fun j x σ' H' hj hx h => ?_) (fun σ' H' h => ?_)
  · obtain ⟨_, _, _, b⟩ := h
    exact sq_of (b _ _ (by simp [nRr.symm]) gr)
  · obtain ⟨y3, rfl, g, b⟩ := h
    rw [List.getElem?_map] at hx
    obtain ⟨z, hz, rfl⟩ := Option.map_eq_some_iff.mp hx
    have oz := op.app (names_ok ok z (List.mem_of_getElem? hz))
    have ll := dd_len ((t.names.take j).map fun x => path ++ x) []
    rw [List.length_map, List.length_take] at ll
    have snoc : dd [] ((t.names.take (j + 1)).map fun x => path ++ x) = if path ++ z ∈ dd [] ((t.names.take j).map fun x => path ++ x) then dd [] ((t.names.take j).map fun x => path ++ x) else dd [] ((t.names.take j).map fun x => path ++ x) ++ [path ++ z] := by
      rw [take_snoc hz, List.map_append]
      exact dd_snoc _ _ _
    generalize dd [] ((t.names.take j).map fun x => path ++ x) = acc at g ll snoc
    walk_at "zz"
    refine z_addS (by rw [← txt_app_len]; exact oz.sz (by decide)) ?_
    walk_at "zz"
    refine z_inL (sq_of g) rfl (strs_flat _) ?_
    rw [show (if true = true then !inV (.str (path ++ z)) (acc.map V.str) else inV (.str (path ++ z)) (acc.map V.str)) = !decide (path ++ z ∈ acc) by rw [inV_strs] <;> rfl]
    walk_at "zz"
    by_cases hm : path ++ z ∈ acc
    · rw [decide_eq_true hm]
      walk_at "zz"
      exact ⟨_, rfl, by rw [snoc, if_pos hm]; exact g, b⟩
    · rw [decide_eq_false hm]
      refine ite_t ?_
      walk_at "zz"
      refine z_tyl (sq_of g) ?_
      walk_at "zz"
      refine z_addS (by rw [← txt_app_len]; exact oz.sz (by decide)) ?_
      walk_at "zz"
      refine z_rapp g (Nat.lt_of_le_of_lt (show (acc.map V.str).length ≤ 3000 by rw [List.length_map]; simp at ll; omega) (by decide)) ?_
      exact ⟨_, rfl, by rw [upd_same, snoc, if_neg hm, List.map_append] <;> rfl, b.trans (But.put (by simp))⟩
  obtain ⟨y3, rfl, g, b⟩ := h
  rw [List.length_map, List.take_length] at g
  walk_at "zz"
  exact q R H' hR (((But.ex (eR.trans e2) (B := [R])).trans b).exOf fun p hp => by rw [List.mem_singleton.mp hp]; exact hR) g
theorem vr_names_told (vs H Q E) (h : sp_names_told K vs H Q E) : (rd_names_told K) { nx := fun _ H' => Q .non H', rt := Q } (start ["part", "kind", "row"] vs) H := by
  obtain ⟨v, pt, z, rfl, pa, pu, q⟩ := h
  obtain ⟨bu, pa_, ra, o, rs, rfl, hbu, hpa, od, hra, trs⟩ := pa
  have lrs := trs.len
  rw [List.length_map] at lrs
  have lr := pu.rl
  unfold rd_names_told
  walk_at "zz"
  refine z_ixT (st_of hbu) (show atI _ ((2 : Nat) : Int) = _ from atI_nat rfl) ?_
  walk_at "zz"
  refine z_CTg (st_of hra) (fun D j H' => Ex H H' ∧ H' D = some (.lst ((((pt.rows.take j).filter fun r => decide (rk r = z)).map rx).map V.str))) (fun D hD => ⟨Ex.new hD, upd_same⟩) (fun D j H' hD p => st_of (p.1 _ _ hra)) (fun D j x H' hD hj hx p => ?_) (fun D H' hD p => ?_)
  · obtain ⟨e, g⟩ := p
    obtain ⟨dd_, hdd, tdd⟩ := trs.get hx
    rw [List.getElem?_map] at hdd
    obtain ⟨r, hr, rfl⟩ := Option.map_eq_some_iff.mp hdd
    obtain ⟨b, rest, rfl, hb, _⟩ := tu_row (tdd.ex e)
    have lf : ((pt.rows.take j).filter fun r => decide (rk r = z)).length ≤ 30 := by
      have h1 := List.length_filter_le (fun r => decide (rk r = z)) (pt.rows.take j)
      have h2 := List.length_take_le j pt.rows
      rw [List.length_take] at h1
      omega
    refine z_gname ⟨rfl, ?_⟩
    walk_at "zz"
    refine z_ixT (st_of hb) (show atI _ ((0 : Nat) : Int) = _ from atI_nat rfl) ?_
    walk_at "zz"
    have snoc := take_snoc hr
    by_cases hz : rk r = z
    · rw [decide_eq_true (by rw [hz])]
      refine ite_t ?_
      walk_at "zz"
      refine z_ixT (st_of hb) (show atI _ ((1 : Nat) : Int) = _ from atI_nat rfl) ?_
      refine ⟨_, g, szlt (by rw [List.length_map, List.length_map]; omega), e.mut hD, ?_⟩
      rw [upd_same, snoc, List.filter_append, List.map_append, List.map_append]
      simp [hz]
    · rw [decide_eq_false (fun h => hz (by injection h))]
      refine ite_f ⟨e, ?_⟩
      rw [snoc, List.filter_append, List.map_append, List.map_append]
      simp [hz, g]
  obtain ⟨e, g⟩ := p
  rw [lrs, List.take_length] at g
  exact q D H' hD e g
theorem c_kids {H : Hp} {Q : VK} {lK b0 : Addr} {p0 : V} {vs : List V} {ks : List Nat} {us : List V} (hb : H b0 = some (.tup vs)) (hl : H lK = some (.lst (ks.map fun k : Nat => V.int (k : Int)))) (l3 : ks.length ≤ 3) (hu : ∀ (i k : Nat), ks[i]? = some k → ∃ u, vs[k]? = some u ∧ us[i]? = some u) (lu : us.length = ks.length) (q : ∀ p H2, H p = none → Ex H H2 → H2 p = some (.lst us) → Q (.ref p) H2) : CL K (gName 2) tYes (tOp (rIxT K) (tVar 0) (tVar 2)) [2] [some (.ref b0), some p0, none] (.ref lK) H Q := by
  refine z_CLg (sq_of hl) (fun D j H' => Ex H H' ∧ H' D = some (.lst (us.take j))) (fun D hD => ⟨Ex.new hD, upd_same⟩) (fun D j H' hD p => sq_of (p.1 _ _ hl)) (fun D j x H' hD hj hx p => ?_) (fun D H' hD p => ?_)
  · obtain ⟨e, g⟩ := p
    rw [List.getElem?_map] at hx
    obtain ⟨k, hk, rfl⟩ := Option.map_eq_some_iff.mp hx
    obtain ⟨u, hu1, hu2⟩ := hu j k hk
    refine z_gname ⟨rfl, ?_⟩
    walk_at "zz"
    refine z_ixT (st_of (e _ _ hb)) (atI_nat hu1) ?_
    have lt : (us.take j).length ≤ 3 := by rw [List.length_take]; omega
    exact ⟨_, g, szlt (by omega), e.mut hD, by rw [upd_same, take_snoc hu2]⟩
  obtain ⟨e, g⟩ := p
  rw [List.length_map, ← lu, List.take_length] at g
  exact q D H' hD e g
theorem vr_L_kids (vs H Q E) (h : sp_L_kids K vs H Q E) : (rd_L_kids K) { nx := fun _ H' => Q .non H', rt := Q } (start ["_law_term_here", "_law_places", "_law_at"] vs) H := by
  obtain ⟨v, t, rfl, tv, q⟩ := h
  unfold rd_L_kids
  walk_at "zz"
  refine z_disp fun p hp => ?_
  have e0 := Ex.new (o := .dK []) hp
  have gp0 : upd H p (.dK []) p = some (.dK []) := upd_same
  generalize upd H p (.dK []) = Ha0 at e0 gp0 ⊢
  refine z_pairs ?_
  walk_at "zz"
  refine ⟨szl (by simp), fun l1 h1 => ?_⟩
  have e1 := Ex.new (o := .lst [.int 2]) h1
  have g1 : upd Ha0 l1 (.lst [.int 2]) l1 = some (.lst [.int 2]) := upd_same
  generalize upd Ha0 l1 (.lst [.int 2]) = Ha1 at e1 g1 ⊢
  refine z_pairs ?_
  walk_at "zz"
  refine ⟨szl (by simp), fun l2 h2 => ?_⟩
  have e2 := Ex.new (o := .lst [.int 1]) h2
  have g2 : upd Ha1 l2 (.lst [.int 1]) l2 = some (.lst [.int 1]) := upd_same
  generalize upd Ha1 l2 (.lst [.int 1]) = Ha2 at e2 g2 ⊢
  refine z_pairs ?_
  walk_at "zz"
  refine ⟨szl (by simp), fun l3 h3 => ?_⟩
  have e3 := Ex.new (o := .lst [.int 2, .int 3]) h3
  have g3 : upd Ha2 l3 (.lst [.int 2, .int 3]) l3 = some (.lst [.int 2, .int 3]) := upd_same
  generalize upd Ha2 l3 (.lst [.int 2, .int 3]) = Ha3 at e3 g3 ⊢
  refine z_pairs ?_
  walk_at "zz"
  refine ⟨szl (by simp), fun l4 h4 => ?_⟩
  have e4 := Ex.new (o := .lst [.int 1, .int 2, .int 3]) h4
  have g4 : upd Ha3 l4 (.lst [.int 1, .int 2, .int 3]) l4 = some (.lst [.int 1, .int 2, .int 3]) := upd_same
  generalize upd Ha3 l4 (.lst [.int 1, .int 2, .int 3]) = Ha4 at e4 g4 ⊢
  refine z_pairs ?_
  walk_at "zz"
  refine ⟨szl (by simp), fun l5 h5 => ?_⟩
  have e5 := Ex.new (o := .lst [.int 1]) h5
  have g5 : upd Ha4 l5 (.lst [.int 1]) l5 = some (.lst [.int 1]) := upd_same
  generalize upd Ha4 l5 (.lst [.int 1]) = Ha5 at e5 g5 ⊢
  refine z_pairs ?_
  walk_at "zz"
  refine ⟨szl (by simp), fun l6 h6 => ?_⟩
  have e6 := Ex.new (o := .lst [.int 1, .int 2]) h6
  have g6 : upd Ha5 l6 (.lst [.int 1, .int 2]) l6 = some (.lst [.int 1, .int 2]) := upd_same
  generalize upd Ha5 l6 (.lst [.int 1, .int 2]) = Ha6 at e6 g6 ⊢
  refine z_pairs ?_
  walk_at "zz"
  refine ⟨szl (by simp), fun l7 h7 => ?_⟩
  have e7 := Ex.new (o := .lst [.int 1]) h7
  have g7 : upd Ha6 l7 (.lst [.int 1]) l7 = some (.lst [.int 1]) := upd_same
  generalize upd Ha6 l7 (.lst [.int 1]) = Ha7 at e7 g7 ⊢
  refine z_pairs0 ⟨?_, [(Sum.inr "at", .ref l1), (Sum.inr "not", .ref l2), (Sum.inr "two", .ref l3), (Sum.inr "pick", .ref l4), (Sum.inr "cut", .ref l5), (Sum.inr "join", .ref l6), (Sum.inr "fill", .ref l7)], rfl, Nat.le_of_ble_eq_true rfl, ?_⟩
  · exact e7 _ _ (e6 _ _ (e5 _ _ (e4 _ _ (e3 _ _ (e2 _ _ (e1 _ _ (gp0)))))))
  have eM : mergeK [] [(Sum.inr "at", .ref l1), (Sum.inr "not", .ref l2), (Sum.inr "two", .ref l3), (Sum.inr "pick", .ref l4), (Sum.inr "cut", .ref l5), (Sum.inr "join", .ref l6), (Sum.inr "fill", .ref l7)] = ([(Sum.inr "at", .ref l1), (Sum.inr "not", .ref l2), (Sum.inr "two", .ref l3), (Sum.inr "pick", .ref l4), (Sum.inr "cut", .ref l5), (Sum.inr "join", .ref l6), (Sum.inr "fill", .ref l7)] : List (Key × V)) := rfl
  rw [eM]
  have xA : Ex Ha0 Ha7 := ((((((e1).trans e2).trans e3).trans e4).trans e5).trans e6).trans e7
  have f1 := e7 _ _ (e6 _ _ (e5 _ _ (e4 _ _ (e3 _ _ (e2 _ _ (g1))))))
  have f2 := e7 _ _ (e6 _ _ (e5 _ _ (e4 _ _ (e3 _ _ (g2)))))
  have f3 := e7 _ _ (e6 _ _ (e5 _ _ (e4 _ _ (g3))))
  have f4 := e7 _ _ (e6 _ _ (e5 _ _ (g4)))
  have f5 := e7 _ _ (e6 _ _ (g5))
  have f6 := e7 _ _ (g6)
  have f7 := g7
  have gpn := xA _ _ gp0
  have np : ∀ {b : Addr} {l : List V}, Ha7 b = some (.lst l) → b ≠ p := fun g z => by
    rw [z, gpn] at g
    injection g with g
    cases g
  have bb : But [p] H (upd Ha7 p (.dK [(Sum.inr "at", .ref l1), (Sum.inr "not", .ref l2), (Sum.inr "two", .ref l3), (Sum.inr "pick", .ref l4), (Sum.inr "cut", .ref l5), (Sum.inr "join", .ref l6), (Sum.inr "fill", .ref l7)])) := (But.ex (e0.trans xA)).trans (But.put (by simp))
  have eH : Ex H (upd Ha7 p (.dK [(Sum.inr "at", .ref l1), (Sum.inr "not", .ref l2), (Sum.inr "two", .ref l3), (Sum.inr "pick", .ref l4), (Sum.inr "cut", .ref l5), (Sum.inr "join", .ref l6), (Sum.inr "fill", .ref l7)])) := bb.exOf fun b hb => by rw [List.mem_singleton.mp hb]; exact hp
  have gd : upd Ha7 p (.dK [(Sum.inr "at", .ref l1), (Sum.inr "not", .ref l2), (Sum.inr "two", .ref l3), (Sum.inr "pick", .ref l4), (Sum.inr "cut", .ref l5), (Sum.inr "join", .ref l6), (Sum.inr "fill", .ref l7)]) p = some (.dK [(Sum.inr "at", .ref l1), (Sum.inr "not", .ref l2), (Sum.inr "two", .ref l3), (Sum.inr "pick", .ref l4), (Sum.inr "cut", .ref l5), (Sum.inr "join", .ref l6), (Sum.inr "fill", .ref l7)]) := upd_same
  have k1 : upd Ha7 p (.dK [(Sum.inr "at", .ref l1), (Sum.inr "not", .ref l2), (Sum.inr "two", .ref l3), (Sum.inr "pick", .ref l4), (Sum.inr "cut", .ref l5), (Sum.inr "join", .ref l6), (Sum.inr "fill", .ref l7)]) l1 = _ := (upd_ne (np f1)).trans f1
  have k2 : upd Ha7 p (.dK [(Sum.inr "at", .ref l1), (Sum.inr "not", .ref l2), (Sum.inr "two", .ref l3), (Sum.inr "pick", .ref l4), (Sum.inr "cut", .ref l5), (Sum.inr "join", .ref l6), (Sum.inr "fill", .ref l7)]) l2 = _ := (upd_ne (np f2)).trans f2
  have k3 : upd Ha7 p (.dK [(Sum.inr "at", .ref l1), (Sum.inr "not", .ref l2), (Sum.inr "two", .ref l3), (Sum.inr "pick", .ref l4), (Sum.inr "cut", .ref l5), (Sum.inr "join", .ref l6), (Sum.inr "fill", .ref l7)]) l3 = _ := (upd_ne (np f3)).trans f3
  have k4 : upd Ha7 p (.dK [(Sum.inr "at", .ref l1), (Sum.inr "not", .ref l2), (Sum.inr "two", .ref l3), (Sum.inr "pick", .ref l4), (Sum.inr "cut", .ref l5), (Sum.inr "join", .ref l6), (Sum.inr "fill", .ref l7)]) l4 = _ := (upd_ne (np f4)).trans f4
  have k5 : upd Ha7 p (.dK [(Sum.inr "at", .ref l1), (Sum.inr "not", .ref l2), (Sum.inr "two", .ref l3), (Sum.inr "pick", .ref l4), (Sum.inr "cut", .ref l5), (Sum.inr "join", .ref l6), (Sum.inr "fill", .ref l7)]) l5 = _ := (upd_ne (np f5)).trans f5
  have k6 : upd Ha7 p (.dK [(Sum.inr "at", .ref l1), (Sum.inr "not", .ref l2), (Sum.inr "two", .ref l3), (Sum.inr "pick", .ref l4), (Sum.inr "cut", .ref l5), (Sum.inr "join", .ref l6), (Sum.inr "fill", .ref l7)]) l6 = _ := (upd_ne (np f6)).trans f6
  have k7 : upd Ha7 p (.dK [(Sum.inr "at", .ref l1), (Sum.inr "not", .ref l2), (Sum.inr "two", .ref l3), (Sum.inr "pick", .ref l4), (Sum.inr "cut", .ref l5), (Sum.inr "join", .ref l6), (Sum.inr "fill", .ref l7)]) l7 = _ := (upd_ne (np f7)).trans f7
  generalize upd Ha7 p (.dK [(Sum.inr "at", .ref l1), (Sum.inr "not", .ref l2), (Sum.inr "two", .ref l3), (Sum.inr "pick", .ref l4), (Sum.inr "cut", .ref l5), (Sum.inr "join", .ref l6), (Sum.inr "fill", .ref l7)]) = HB at eH gd k1 k2 k3 k4 k5 k6 k7 ⊢
  clear f1 f2 f3 f4 f5 f6 f7 gpn np bb xA eM
  have tvB := tv.ex eH
  walk_at "zz"
  cases t with
  | num n w =>
    obtain ⟨b0, x0, x1, x2, rfl, hb, y0, y1, y2⟩ := tu3 tvB
    cases tu_str y0
    refine ⟨p, rfl, .inl ⟨_, .inl gd⟩, ?_⟩
    walk_at "zz"
    refine z_ixT (st_of hb) (show atI _ ((0 : Nat) : Int) = _ from atI_nat rfl) ?_
    walk_at "zz"
    refine ⟨szl (by simp), fun l9 h9 => ?_⟩
    have xn := Ex.new (o := .lst []) h9
    have g9 : upd HB l9 (.lst []) l9 = some (.lst []) := upd_same
    generalize upd HB l9 (.lst []) = HC at xn g9 ⊢
    refine ⟨_, DGet.k (k := Sum.inr _) (xn _ _ gd), ?_⟩
    exact c_kids (lK := l9) (ks := []) (us := []) (xn _ _ hb) g9 (by decide) (fun i k hk => by
      rcases i with _ | _ | _ | i <;> simp at hk <;> subst hk <;> exact ⟨_, rfl, rfl⟩) rfl (fun r H2 fr e gr => q r H2 [] (ex_none (eH.trans xn) fr) ((eH.trans xn).trans e) gr (.nil))
  | name x =>
    obtain ⟨b0, x0, x1, rfl, hb, y0, y1⟩ := tu2 tvB
    cases tu_str y0
    refine ⟨p, rfl, .inl ⟨_, .inl gd⟩, ?_⟩
    walk_at "zz"
    refine z_ixT (st_of hb) (show atI _ ((0 : Nat) : Int) = _ from atI_nat rfl) ?_
    walk_at "zz"
    refine ⟨szl (by simp), fun l9 h9 => ?_⟩
    have xn := Ex.new (o := .lst []) h9
    have g9 : upd HB l9 (.lst []) l9 = some (.lst []) := upd_same
    generalize upd HB l9 (.lst []) = HC at xn g9 ⊢
    refine ⟨_, DGet.k (k := Sum.inr _) (xn _ _ gd), ?_⟩
    exact c_kids (lK := l9) (ks := []) (us := []) (xn _ _ hb) g9 (by decide) (fun i k hk => by
      rcases i with _ | _ | _ | i <;> simp at hk <;> subst hk <;> exact ⟨_, rfl, rfl⟩) rfl (fun r H2 fr e gr => q r H2 [] (ex_none (eH.trans xn) fr) ((eH.trans xn).trans e) gr (.nil))
  | of_ u d =>
    obtain ⟨b0, x0, x1, x2, rfl, hb, y0, y1, y2⟩ := tu3 tvB
    cases tu_str y0
    refine ⟨p, rfl, .inl ⟨_, .inl gd⟩, ?_⟩
    walk_at "zz"
    refine z_ixT (st_of hb) (show atI _ ((0 : Nat) : Int) = _ from atI_nat rfl) ?_
    walk_at "zz"
    refine ⟨szl (by simp), fun l9 h9 => ?_⟩
    have xn := Ex.new (o := .lst []) h9
    have g9 : upd HB l9 (.lst []) l9 = some (.lst []) := upd_same
    generalize upd HB l9 (.lst []) = HC at xn g9 ⊢
    refine ⟨_, DGet.k (k := Sum.inr _) (xn _ _ gd), ?_⟩
    exact c_kids (lK := l9) (ks := []) (us := []) (xn _ _ hb) g9 (by decide) (fun i k hk => by
      rcases i with _ | _ | _ | i <;> simp at hk <;> subst hk <;> exact ⟨_, rfl, rfl⟩) rfl (fun r H2 fr e gr => q r H2 [] (ex_none (eH.trans xn) fr) ((eH.trans xn).trans e) gr (.nil))
  | at_ s t =>
    obtain ⟨b0, x0, x1, x2, rfl, hb, y0, y1, y2⟩ := tu3 tvB
    cases tu_str y0
    refine ⟨p, rfl, .inl ⟨_, .inl gd⟩, ?_⟩
    walk_at "zz"
    refine z_ixT (st_of hb) (show atI _ ((0 : Nat) : Int) = _ from atI_nat rfl) ?_
    walk_at "zz"
    refine ⟨szl (by simp), fun l9 h9 => ?_⟩
    have xn := Ex.new (o := .lst []) h9
    have g9 : upd HB l9 (.lst []) l9 = some (.lst []) := upd_same
    generalize upd HB l9 (.lst []) = HC at xn g9 ⊢
    refine ⟨_, DGet.k (k := Sum.inr _) (xn _ _ gd), ?_⟩
    exact c_kids (lK := l1) (ks := [2]) (us := [x2]) (xn _ _ hb) (xn _ _ k1) (by decide) (fun i k hk => by
      rcases i with _ | _ | _ | i <;> simp at hk <;> subst hk <;> exact ⟨_, rfl, rfl⟩) rfl (fun r H2 fr e gr => q r H2 [x2] (ex_none (eH.trans xn) fr) ((eH.trans xn).trans e) gr (.cons (y2.ex (xn.trans e)) .nil))
  | not_ t =>
    obtain ⟨b0, x0, x1, rfl, hb, y0, y1⟩ := tu2 tvB
    cases tu_str y0
    refine ⟨p, rfl, .inl ⟨_, .inl gd⟩, ?_⟩
    walk_at "zz"
    refine z_ixT (st_of hb) (show atI _ ((0 : Nat) : Int) = _ from atI_nat rfl) ?_
    walk_at "zz"
    refine ⟨szl (by simp), fun l9 h9 => ?_⟩
    have xn := Ex.new (o := .lst []) h9
    have g9 : upd HB l9 (.lst []) l9 = some (.lst []) := upd_same
    generalize upd HB l9 (.lst []) = HC at xn g9 ⊢
    refine ⟨_, DGet.k (k := Sum.inr _) (xn _ _ gd), ?_⟩
    exact c_kids (lK := l2) (ks := [1]) (us := [x1]) (xn _ _ hb) (xn _ _ k2) (by decide) (fun i k hk => by
      rcases i with _ | _ | _ | i <;> simp at hk <;> subst hk <;> exact ⟨_, rfl, rfl⟩) rfl (fun r H2 fr e gr => q r H2 [x1] (ex_none (eH.trans xn) fr) ((eH.trans xn).trans e) gr (.cons (y1.ex (xn.trans e)) .nil))
  | two s a b =>
    obtain ⟨b0, x0, x1, x2, x3, rfl, hb, y0, y1, y2, y3⟩ := tu4 tvB
    cases tu_str y0
    refine ⟨p, rfl, .inl ⟨_, .inl gd⟩, ?_⟩
    walk_at "zz"
    refine z_ixT (st_of hb) (show atI _ ((0 : Nat) : Int) = _ from atI_nat rfl) ?_
    walk_at "zz"
    refine ⟨szl (by simp), fun l9 h9 => ?_⟩
    have xn := Ex.new (o := .lst []) h9
    have g9 : upd HB l9 (.lst []) l9 = some (.lst []) := upd_same
    generalize upd HB l9 (.lst []) = HC at xn g9 ⊢
    refine ⟨_, DGet.k (k := Sum.inr _) (xn _ _ gd), ?_⟩
    exact c_kids (lK := l3) (ks := [2, 3]) (us := [x2, x3]) (xn _ _ hb) (xn _ _ k3) (by decide) (fun i k hk => by
      rcases i with _ | _ | _ | i <;> simp at hk <;> subst hk <;> exact ⟨_, rfl, rfl⟩) rfl (fun r H2 fr e gr => q r H2 [x2, x3] (ex_none (eH.trans xn) fr) ((eH.trans xn).trans e) gr (.cons (y2.ex (xn.trans e)) (.cons (y3.ex (xn.trans e)) .nil)))
  | pick a b c =>
    obtain ⟨b0, x0, x1, x2, x3, rfl, hb, y0, y1, y2, y3⟩ := tu4 tvB
    cases tu_str y0
    refine ⟨p, rfl, .inl ⟨_, .inl gd⟩, ?_⟩
    walk_at "zz"
    refine z_ixT (st_of hb) (show atI _ ((0 : Nat) : Int) = _ from atI_nat rfl) ?_
    walk_at "zz"
    refine ⟨szl (by simp), fun l9 h9 => ?_⟩
    have xn := Ex.new (o := .lst []) h9
    have g9 : upd HB l9 (.lst []) l9 = some (.lst []) := upd_same
    generalize upd HB l9 (.lst []) = HC at xn g9 ⊢
    refine ⟨_, DGet.k (k := Sum.inr _) (xn _ _ gd), ?_⟩
    exact c_kids (lK := l4) (ks := [1, 2, 3]) (us := [x1, x2, x3]) (xn _ _ hb) (xn _ _ k4) (by decide) (fun i k hk => by
      rcases i with _ | _ | _ | i <;> simp at hk <;> subst hk <;> exact ⟨_, rfl, rfl⟩) rfl (fun r H2 fr e gr => q r H2 [x1, x2, x3] (ex_none (eH.trans xn) fr) ((eH.trans xn).trans e) gr (.cons (y1.ex (xn.trans e)) (.cons (y2.ex (xn.trans e)) (.cons (y3.ex (xn.trans e)) .nil))))
  | cut t l w =>
    obtain ⟨b0, x0, x1, x2, x3, rfl, hb, y0, y1, y2, y3⟩ := tu4 tvB
    cases tu_str y0
    refine ⟨p, rfl, .inl ⟨_, .inl gd⟩, ?_⟩
    walk_at "zz"
    refine z_ixT (st_of hb) (show atI _ ((0 : Nat) : Int) = _ from atI_nat rfl) ?_
    walk_at "zz"
    refine ⟨szl (by simp), fun l9 h9 => ?_⟩
    have xn := Ex.new (o := .lst []) h9
    have g9 : upd HB l9 (.lst []) l9 = some (.lst []) := upd_same
    generalize upd HB l9 (.lst []) = HC at xn g9 ⊢
    refine ⟨_, DGet.k (k := Sum.inr _) (xn _ _ gd), ?_⟩
    exact c_kids (lK := l5) (ks := [1]) (us := [x1]) (xn _ _ hb) (xn _ _ k5) (by decide) (fun i k hk => by
      rcases i with _ | _ | _ | i <;> simp at hk <;> subst hk <;> exact ⟨_, rfl, rfl⟩) rfl (fun r H2 fr e gr => q r H2 [x1] (ex_none (eH.trans xn) fr) ((eH.trans xn).trans e) gr (.cons (y1.ex (xn.trans e)) .nil))
  | join a b =>
    obtain ⟨b0, x0, x1, x2, rfl, hb, y0, y1, y2⟩ := tu3 tvB
    cases tu_str y0
    refine ⟨p, rfl, .inl ⟨_, .inl gd⟩, ?_⟩
    walk_at "zz"
    refine z_ixT (st_of hb) (show atI _ ((0 : Nat) : Int) = _ from atI_nat rfl) ?_
    walk_at "zz"
    refine ⟨szl (by simp), fun l9 h9 => ?_⟩
    have xn := Ex.new (o := .lst []) h9
    have g9 : upd HB l9 (.lst []) l9 = some (.lst []) := upd_same
    generalize upd HB l9 (.lst []) = HC at xn g9 ⊢
    refine ⟨_, DGet.k (k := Sum.inr _) (xn _ _ gd), ?_⟩
    exact c_kids (lK := l6) (ks := [1, 2]) (us := [x1, x2]) (xn _ _ hb) (xn _ _ k6) (by decide) (fun i k hk => by
      rcases i with _ | _ | _ | i <;> simp at hk <;> subst hk <;> exact ⟨_, rfl, rfl⟩) rfl (fun r H2 fr e gr => q r H2 [x1, x2] (ex_none (eH.trans xn) fr) ((eH.trans xn).trans e) gr (.cons (y1.ex (xn.trans e)) (.cons (y2.ex (xn.trans e)) .nil)))
  | fill t w =>
    obtain ⟨b0, x0, x1, x2, rfl, hb, y0, y1, y2⟩ := tu3 tvB
    cases tu_str y0
    refine ⟨p, rfl, .inl ⟨_, .inl gd⟩, ?_⟩
    walk_at "zz"
    refine z_ixT (st_of hb) (show atI _ ((0 : Nat) : Int) = _ from atI_nat rfl) ?_
    walk_at "zz"
    refine ⟨szl (by simp), fun l9 h9 => ?_⟩
    have xn := Ex.new (o := .lst []) h9
    have g9 : upd HB l9 (.lst []) l9 = some (.lst []) := upd_same
    generalize upd HB l9 (.lst []) = HC at xn g9 ⊢
    refine ⟨_, DGet.k (k := Sum.inr _) (xn _ _ gd), ?_⟩
    exact c_kids (lK := l7) (ks := [1]) (us := [x1]) (xn _ _ hb) (xn _ _ k7) (by decide) (fun i k hk => by
      rcases i with _ | _ | _ | i <;> simp at hk <;> subst hk <;> exact ⟨_, rfl, rfl⟩) rfl (fun r H2 fr e gr => q r H2 [x1] (ex_none (eH.trans xn) fr) ((eH.trans xn).trans e) gr (.cons (y1.ex (xn.trans e)) .nil))
theorem tu7 {H : Hp} {v : V} {d0 d1 d2 d3 d4 d5 d6 : PyData} (h : Tu H v (.tuple [d0, d1, d2, d3, d4, d5, d6])) : ∃ a x0 x1 x2 x3 x4 x5 x6, v = .ref a ∧ H a = some (.tup [x0, x1, x2, x3, x4, x5, x6]) ∧ Tu H x0 d0 ∧ Tu H x1 d1 ∧ Tu H x2 d2 ∧ Tu H x3 d3 ∧ Tu H x4 d4 ∧ Tu H x5 d5 ∧ Tu H x6 d6 := by
  obtain ⟨a, vs, rfl, ha, t⟩ := tu_tup h
  cases t with
  | cons t0 r => cases r with
    | cons t1 r => cases r with
      | cons t2 r => cases r with
        | cons t3 r => cases r with
          | cons t4 r => cases r with
            | cons t5 r => cases r with
              | cons t6 r => cases r with
                | nil => exact ⟨a, _, _, _, _, _, _, _, rfl, ha, t0, t1, t2, t3, t4, t5, t6⟩
theorem vr_L_terms (vs H Q E) (h : sp_L_terms K vs H Q E) : (rd_L_terms K) { nx := fun _ H' => Q .non H', rt := Q } (start ["_law_row", "_law_places", "_law_at"] vs) H := by
  obtain ⟨v, row, rfl, tv, q⟩ := h
  unfold rd_L_terms
  walk_at "zz"
  refine z_disp fun p hp => ?_
  have e0 := Ex.new (o := .dK []) hp
  have gp0 : upd H p (.dK []) p = some (.dK []) := upd_same
  generalize upd H p (.dK []) = Ha0 at e0 gp0 ⊢
  refine z_pairs ?_
  walk_at "zz"
  refine ⟨szl (by simp), fun l1 h1 => ?_⟩
  have e1 := Ex.new (o := .lst [.int 2]) h1
  have g1 : upd Ha0 l1 (.lst [.int 2]) l1 = some (.lst [.int 2]) := upd_same
  generalize upd Ha0 l1 (.lst [.int 2]) = Ha1 at e1 g1 ⊢
  refine z_pairs ?_
  walk_at "zz"
  refine ⟨szl (by simp), fun l2 h2 => ?_⟩
  have e2 := Ex.new (o := .lst [.int 4]) h2
  have g2 : upd Ha1 l2 (.lst [.int 4]) l2 = some (.lst [.int 4]) := upd_same
  generalize upd Ha1 l2 (.lst [.int 4]) = Ha2 at e2 g2 ⊢
  refine z_pairs ?_
  walk_at "zz"
  refine ⟨szl (by simp), fun l3 h3 => ?_⟩
  have e3 := Ex.new (o := .lst [.int 4, .int 5, .int 6]) h3
  have g3 : upd Ha2 l3 (.lst [.int 4, .int 5, .int 6]) l3 = some (.lst [.int 4, .int 5, .int 6]) := upd_same
  generalize upd Ha2 l3 (.lst [.int 4, .int 5, .int 6]) = Ha3 at e3 g3 ⊢
  refine z_pairs0 ⟨?_, [(Sum.inr "let", .ref l1), (Sum.inr "rest", .ref l2), (Sum.inr "memory", .ref l3)], rfl, Nat.le_of_ble_eq_true rfl, ?_⟩
  · exact e3 _ _ (e2 _ _ (e1 _ _ (gp0)))
  have eM : mergeK [] [(Sum.inr "let", .ref l1), (Sum.inr "rest", .ref l2), (Sum.inr "memory", .ref l3)] = ([(Sum.inr "let", .ref l1), (Sum.inr "rest", .ref l2), (Sum.inr "memory", .ref l3)] : List (Key × V)) := rfl
  rw [eM]
  have xA : Ex Ha0 Ha3 := ((e1).trans e2).trans e3
  have f1 := e3 _ _ (e2 _ _ (g1))
  have f2 := e3 _ _ (g2)
  have f3 := g3
  have gpn := xA _ _ gp0
  have np : ∀ {b : Addr} {l : List V}, Ha3 b = some (.lst l) → b ≠ p := fun g z => by
    rw [z, gpn] at g
    injection g with g
    cases g
  have bb : But [p] H (upd Ha3 p (.dK [(Sum.inr "let", .ref l1), (Sum.inr "rest", .ref l2), (Sum.inr "memory", .ref l3)])) := (But.ex (e0.trans xA)).trans (But.put (by simp))
  have eH : Ex H (upd Ha3 p (.dK [(Sum.inr "let", .ref l1), (Sum.inr "rest", .ref l2), (Sum.inr "memory", .ref l3)])) := bb.exOf fun b hb => by rw [List.mem_singleton.mp hb]; exact hp
  have gd : upd Ha3 p (.dK [(Sum.inr "let", .ref l1), (Sum.inr "rest", .ref l2), (Sum.inr "memory", .ref l3)]) p = some (.dK [(Sum.inr "let", .ref l1), (Sum.inr "rest", .ref l2), (Sum.inr "memory", .ref l3)]) := upd_same
  have k1 : upd Ha3 p (.dK [(Sum.inr "let", .ref l1), (Sum.inr "rest", .ref l2), (Sum.inr "memory", .ref l3)]) l1 = _ := (upd_ne (np f1)).trans f1
  have k2 : upd Ha3 p (.dK [(Sum.inr "let", .ref l1), (Sum.inr "rest", .ref l2), (Sum.inr "memory", .ref l3)]) l2 = _ := (upd_ne (np f2)).trans f2
  have k3 : upd Ha3 p (.dK [(Sum.inr "let", .ref l1), (Sum.inr "rest", .ref l2), (Sum.inr "memory", .ref l3)]) l3 = _ := (upd_ne (np f3)).trans f3
  generalize upd Ha3 p (.dK [(Sum.inr "let", .ref l1), (Sum.inr "rest", .ref l2), (Sum.inr "memory", .ref l3)]) = HB at eH gd k1 k2 k3 ⊢
  clear f1 f2 f3 gpn np bb xA eM
  have tvB := tv.ex eH
  walk_at "zz"
  cases row with
  | inn x w =>
    obtain ⟨b0, x0, x1, x2, rfl, hb, y0, y1, y2⟩ := tu3 tvB
    cases tu_str y0
    refine z_ixT (st_of hb) (show atI _ ((0 : Nat) : Int) = _ from atI_nat rfl) ?_
    walk_at "zz"
    try (rw [kw_dec (a := Str.ofString "in") (b := Str.ofString "use") (by decide +kernel)]; refine ite_f ?_; walk_at "zz")
    refine ⟨p, rfl, .inl ⟨_, .inl gd⟩, ?_⟩
    walk_at "zz"
    refine z_ixT (st_of hb) (show atI _ ((0 : Nat) : Int) = _ from atI_nat rfl) ?_
    walk_at "zz"
    refine ⟨szl (by simp), fun l9 h9 => ?_⟩
    have xn := Ex.new (o := .lst []) h9
    have g9 : upd HB l9 (.lst []) l9 = some (.lst []) := upd_same
    generalize upd HB l9 (.lst []) = HC at xn g9 ⊢
    refine ⟨_, DGet.k (k := Sum.inr _) (xn _ _ gd), ?_⟩
    exact c_kids (lK := l9) (ks := []) (us := []) (xn _ _ hb) g9 (by decide) (fun i k hk => by
      rcases i with _ | _ | _ | i <;> simp at hk <;> subst hk <;> exact ⟨_, rfl, rfl⟩) rfl (fun r H2 fr e gr => q r H2 [] (ex_none (eH.trans xn) fr) ((eH.trans xn).trans e) gr (.nil))
  | out x w =>
    obtain ⟨b0, x0, x1, x2, rfl, hb, y0, y1, y2⟩ := tu3 tvB
    cases tu_str y0
    refine z_ixT (st_of hb) (show atI _ ((0 : Nat) : Int) = _ from atI_nat rfl) ?_
    walk_at "zz"
    try (rw [kw_dec (a := Str.ofString "out") (b := Str.ofString "use") (by decide +kernel)]; refine ite_f ?_; walk_at "zz")
    refine ⟨p, rfl, .inl ⟨_, .inl gd⟩, ?_⟩
    walk_at "zz"
    refine z_ixT (st_of hb) (show atI _ ((0 : Nat) : Int) = _ from atI_nat rfl) ?_
    walk_at "zz"
    refine ⟨szl (by simp), fun l9 h9 => ?_⟩
    have xn := Ex.new (o := .lst []) h9
    have g9 : upd HB l9 (.lst []) l9 = some (.lst []) := upd_same
    generalize upd HB l9 (.lst []) = HC at xn g9 ⊢
    refine ⟨_, DGet.k (k := Sum.inr _) (xn _ _ gd), ?_⟩
    exact c_kids (lK := l9) (ks := []) (us := []) (xn _ _ hb) g9 (by decide) (fun i k hk => by
      rcases i with _ | _ | _ | i <;> simp at hk <;> subst hk <;> exact ⟨_, rfl, rfl⟩) rfl (fun r H2 fr e gr => q r H2 [] (ex_none (eH.trans xn) fr) ((eH.trans xn).trans e) gr (.nil))
  | wire x w =>
    obtain ⟨b0, x0, x1, x2, rfl, hb, y0, y1, y2⟩ := tu3 tvB
    cases tu_str y0
    refine z_ixT (st_of hb) (show atI _ ((0 : Nat) : Int) = _ from atI_nat rfl) ?_
    walk_at "zz"
    try (rw [kw_dec (a := Str.ofString "wire") (b := Str.ofString "use") (by decide +kernel)]; refine ite_f ?_; walk_at "zz")
    refine ⟨p, rfl, .inl ⟨_, .inl gd⟩, ?_⟩
    walk_at "zz"
    refine z_ixT (st_of hb) (show atI _ ((0 : Nat) : Int) = _ from atI_nat rfl) ?_
    walk_at "zz"
    refine ⟨szl (by simp), fun l9 h9 => ?_⟩
    have xn := Ex.new (o := .lst []) h9
    have g9 : upd HB l9 (.lst []) l9 = some (.lst []) := upd_same
    generalize upd HB l9 (.lst []) = HC at xn g9 ⊢
    refine ⟨_, DGet.k (k := Sum.inr _) (xn _ _ gd), ?_⟩
    exact c_kids (lK := l9) (ks := []) (us := []) (xn _ _ hb) g9 (by decide) (fun i k hk => by
      rcases i with _ | _ | _ | i <;> simp at hk <;> subst hk <;> exact ⟨_, rfl, rfl⟩) rfl (fun r H2 fr e gr => q r H2 [] (ex_none (eH.trans xn) fr) ((eH.trans xn).trans e) gr (.nil))
  | rest x w n t =>
    obtain ⟨b0, x0, x1, x2, x3, x4, rfl, hb, y0, y1, y2, y3, y4⟩ := tu5 tvB
    cases tu_str y0
    refine z_ixT (st_of hb) (show atI _ ((0 : Nat) : Int) = _ from atI_nat rfl) ?_
    walk_at "zz"
    try (rw [kw_dec (a := Str.ofString "rest") (b := Str.ofString "use") (by decide +kernel)]; refine ite_f ?_; walk_at "zz")
    refine ⟨p, rfl, .inl ⟨_, .inl gd⟩, ?_⟩
    walk_at "zz"
    refine z_ixT (st_of hb) (show atI _ ((0 : Nat) : Int) = _ from atI_nat rfl) ?_
    walk_at "zz"
    refine ⟨szl (by simp), fun l9 h9 => ?_⟩
    have xn := Ex.new (o := .lst []) h9
    have g9 : upd HB l9 (.lst []) l9 = some (.lst []) := upd_same
    generalize upd HB l9 (.lst []) = HC at xn g9 ⊢
    refine ⟨_, DGet.k (k := Sum.inr _) (xn _ _ gd), ?_⟩
    exact c_kids (lK := l2) (ks := [4]) (us := [x4]) (xn _ _ hb) (xn _ _ k2) (by decide) (fun i k hk => by
      rcases i with _ | _ | _ | i <;> simp at hk <;> subst hk <;> exact ⟨_, rfl, rfl⟩) rfl (fun r H2 fr e gr => q r H2 [x4] (ex_none (eH.trans xn) fr) ((eH.trans xn).trans e) gr (.cons (y4.ex (xn.trans e)) .nil))
  | let_ x t =>
    obtain ⟨b0, x0, x1, x2, rfl, hb, y0, y1, y2⟩ := tu3 tvB
    cases tu_str y0
    refine z_ixT (st_of hb) (show atI _ ((0 : Nat) : Int) = _ from atI_nat rfl) ?_
    walk_at "zz"
    try (rw [kw_dec (a := Str.ofString "let") (b := Str.ofString "use") (by decide +kernel)]; refine ite_f ?_; walk_at "zz")
    refine ⟨p, rfl, .inl ⟨_, .inl gd⟩, ?_⟩
    walk_at "zz"
    refine z_ixT (st_of hb) (show atI _ ((0 : Nat) : Int) = _ from atI_nat rfl) ?_
    walk_at "zz"
    refine ⟨szl (by simp), fun l9 h9 => ?_⟩
    have xn := Ex.new (o := .lst []) h9
    have g9 : upd HB l9 (.lst []) l9 = some (.lst []) := upd_same
    generalize upd HB l9 (.lst []) = HC at xn g9 ⊢
    refine ⟨_, DGet.k (k := Sum.inr _) (xn _ _ gd), ?_⟩
    exact c_kids (lK := l1) (ks := [2]) (us := [x2]) (xn _ _ hb) (xn _ _ k1) (by decide) (fun i k hk => by
      rcases i with _ | _ | _ | i <;> simp at hk <;> subst hk <;> exact ⟨_, rfl, rfl⟩) rfl (fun r H2 fr e gr => q r H2 [x2] (ex_none (eH.trans xn) fr) ((eH.trans xn).trans e) gr (.cons (y2.ex (xn.trans e)) .nil))
  | use x qq ws ts =>
    obtain ⟨b0, x0, x1, x2, x3, x4, rfl, hb, y0, y1, y2, y3, y4⟩ := tu5 tvB
    cases tu_str y0
    refine z_ixT (st_of hb) (show atI _ ((0 : Nat) : Int) = _ from atI_nat rfl) ?_
    walk_at "zz"
    try (rw [show decide (V.str (Str.ofString "use") = V.str (Str.ofString "use")) = true from decide_eq_true rfl]; refine ite_t ?_; walk_at "zz")
    refine z_ixT (st_of hb) (show atI _ ((4 : Nat) : Int) = _ from atI_nat rfl) ?_
    walk_at "zz"
    obtain ⟨bt, us, rfl, hbt, tus⟩ := tu_tup y4
    refine ⟨_, _, rfl, .inr (st_of hbt), fun l hl => ?_⟩
    exact q l _ us (ex_none eH hl) (eH.trans (Ex.new hl)) upd_same (tus.ex (Ex.new hl))
  | tab x w ns =>
    obtain ⟨b0, x0, x1, x2, x3, rfl, hb, y0, y1, y2, y3⟩ := tu4 tvB
    cases tu_str y0
    refine z_ixT (st_of hb) (show atI _ ((0 : Nat) : Int) = _ from atI_nat rfl) ?_
    walk_at "zz"
    try (rw [kw_dec (a := Str.ofString "table") (b := Str.ofString "use") (by decide +kernel)]; refine ite_f ?_; walk_at "zz")
    refine ⟨p, rfl, .inl ⟨_, .inl gd⟩, ?_⟩
    walk_at "zz"
    refine z_ixT (st_of hb) (show atI _ ((0 : Nat) : Int) = _ from atI_nat rfl) ?_
    walk_at "zz"
    refine ⟨szl (by simp), fun l9 h9 => ?_⟩
    have xn := Ex.new (o := .lst []) h9
    have g9 : upd HB l9 (.lst []) l9 = some (.lst []) := upd_same
    generalize upd HB l9 (.lst []) = HC at xn g9 ⊢
    refine ⟨_, DGet.k (k := Sum.inr _) (xn _ _ gd), ?_⟩
    exact c_kids (lK := l9) (ks := []) (us := []) (xn _ _ hb) g9 (by decide) (fun i k hk => by
      rcases i with _ | _ | _ | i <;> simp at hk <;> subst hk <;> exact ⟨_, rfl, rfl⟩) rfl (fun r H2 fr e gr => q r H2 [] (ex_none (eH.trans xn) fr) ((eH.trans xn).trans e) gr (.nil))
  | mem x w n a b c =>
    obtain ⟨b0, x0, x1, x2, x3, x4, x5, x6, rfl, hb, y0, y1, y2, y3, y4, y5, y6⟩ := tu7 tvB
    cases tu_str y0
    refine z_ixT (st_of hb) (show atI _ ((0 : Nat) : Int) = _ from atI_nat rfl) ?_
    walk_at "zz"
    try (rw [kw_dec (a := Str.ofString "memory") (b := Str.ofString "use") (by decide +kernel)]; refine ite_f ?_; walk_at "zz")
    refine ⟨p, rfl, .inl ⟨_, .inl gd⟩, ?_⟩
    walk_at "zz"
    refine z_ixT (st_of hb) (show atI _ ((0 : Nat) : Int) = _ from atI_nat rfl) ?_
    walk_at "zz"
    refine ⟨szl (by simp), fun l9 h9 => ?_⟩
    have xn := Ex.new (o := .lst []) h9
    have g9 : upd HB l9 (.lst []) l9 = some (.lst []) := upd_same
    generalize upd HB l9 (.lst []) = HC at xn g9 ⊢
    refine ⟨_, DGet.k (k := Sum.inr _) (xn _ _ gd), ?_⟩
    exact c_kids (lK := l3) (ks := [4, 5, 6]) (us := [x4, x5, x6]) (xn _ _ hb) (xn _ _ k3) (by decide) (fun i k hk => by
      rcases i with _ | _ | _ | i <;> simp at hk <;> subst hk <;> exact ⟨_, rfl, rfl⟩) rfl (fun r H2 fr e gr => q r H2 [x4, x5, x6] (ex_none (eH.trans xn) fr) ((eH.trans xn).trans e) gr (.cons (y4.ex (xn.trans e)) (.cons (y5.ex (xn.trans e)) (.cons (y6.ex (xn.trans e)) .nil))))
theorem tsz_kids (t : Trm) : (t.kids.map tsz).sum + 1 = tsz t := by
  cases t <;> simp [Trm.kids, tsz] <;> omega
theorem tsz_pos (t : Trm) : 1 ≤ tsz t := by
  have := tsz_kids t
  omega
theorem tsz_le : ∀ t : Trm, tsz t ≤ 4 ^ t.deep
  | .num .. => by show 1 ≤ 4 ^ 1; decide
  | .name _ => by show 1 ≤ 4 ^ 1; decide
  | .of_ .. => by show 1 ≤ 4 ^ 1; decide
  | .at_ _ t => by
    have := tsz_le t
    have := tsz_pos t
    show tsz t + 1 ≤ 4 ^ (t.deep + 1)
    rw [Nat.pow_succ]
    omega
  | .not_ t => by
    have := tsz_le t
    have := tsz_pos t
    show tsz t + 1 ≤ 4 ^ (t.deep + 1)
    rw [Nat.pow_succ]
    omega
  | .cut t _ _ => by
    have := tsz_le t
    have := tsz_pos t
    show tsz t + 1 ≤ 4 ^ (t.deep + 1)
    rw [Nat.pow_succ]
    omega
  | .fill t _ => by
    have := tsz_le t
    have := tsz_pos t
    show tsz t + 1 ≤ 4 ^ (t.deep + 1)
    rw [Nat.pow_succ]
    omega
  | .two _ a b => by
    have h1 := tsz_le a
    have h2 := tsz_le b
    have := tsz_pos a
    have p1 := Nat.pow_le_pow_right (show 0 < 4 by decide) (Nat.le_max_left a.deep b.deep)
    have p2 := Nat.pow_le_pow_right (show 0 < 4 by decide) (Nat.le_max_right a.deep b.deep)
    show tsz a + tsz b + 1 ≤ 4 ^ (max a.deep b.deep + 1)
    rw [Nat.pow_succ]
    omega
  | .join a b => by
    have h1 := tsz_le a
    have h2 := tsz_le b
    have := tsz_pos a
    have p1 := Nat.pow_le_pow_right (show 0 < 4 by decide) (Nat.le_max_left a.deep b.deep)
    have p2 := Nat.pow_le_pow_right (show 0 < 4 by decide) (Nat.le_max_right a.deep b.deep)
    show tsz a + tsz b + 1 ≤ 4 ^ (max a.deep b.deep + 1)
    rw [Nat.pow_succ]
    omega
  | .pick a b c => by
    have h1 := tsz_le a
    have h2 := tsz_le b
    have h3 := tsz_le c
    have := tsz_pos a
    have p1 := Nat.pow_le_pow_right (show 0 < 4 by decide) (Nat.le_max_left a.deep (max b.deep c.deep))
    have p2 := Nat.pow_le_pow_right (show 0 < 4 by decide) (Nat.le_trans (Nat.le_max_left b.deep c.deep) (Nat.le_max_right a.deep (max b.deep c.deep)))
    have p3 := Nat.pow_le_pow_right (show 0 < 4 by decide) (Nat.le_trans (Nat.le_max_right b.deep c.deep) (Nat.le_max_right a.deep (max b.deep c.deep)))
    show tsz a + tsz b + tsz c + 1 ≤ 4 ^ (max a.deep (max b.deep c.deep) + 1)
    rw [Nat.pow_succ]
    omega
theorem ta_last {H : Hp} : ∀ {us : List V} {ds : List PyData} {d : PyData}, TuAll H us (ds ++ [d]) → ∃ us' u, us = us' ++ [u] ∧ TuAll H us' ds ∧ Tu H u d
  | _, [], _, h => by
    cases h with
    | cons a r =>
      cases r
      exact ⟨[], _, rfl, .nil, a⟩
  | _, e :: ds, d, h => by
    cases h with
    | cons a r =>
      obtain ⟨us', u, rfl, h1, h2⟩ := ta_last r
      exact ⟨_ :: us', u, rfl, .cons a h1, h2⟩
theorem psz_len (P : List Trm) : P.length ≤ (P.map tsz).sum := by
  induction P with
  | nil => exact Nat.le_refl _
  | cons t P ih =>
    have := tsz_pos t
    rw [List.length_cons, List.map_cons, List.sum_cons]
    omega
theorem join1 (a x : Str) : Txt.join a [x] = x := rfl
theorem join2 (a x y : Str) : Txt.join a [x, y] = x ++ a ++ y := by
  show x ++ a ++ y = _
  rfl
theorem in_no (t : Trm) : (∃ x, t = .name x) ∨ (∃ u d, t = .of_ u d) ∨ (inV (.str (kd t)) [.str (Str.ofString "name"), .str (Str.ofString "of")] = false ∧ t.names = t.kids.flatMap Trm.names) := by
  rcases t_split t with h | h | ⟨h1, h2, h3⟩
  · exact .inl h
  · exact .inr (.inl h)
  · refine .inr (.inr ⟨?_, h3⟩)
    have e := inV_strs (kd t) [Str.ofString "name", Str.ofString "of"]
    have n1 : kd t ≠ Str.ofString "name" := fun z => absurd (show V.str (kd t) = V.str (Str.ofString "name") by rw [z]) (of_decide_eq_false h1)
    have n2 : kd t ≠ Str.ofString "of" := fun z => absurd (show V.str (kd t) = V.str (Str.ofString "of") by rw [z]) (of_decide_eq_false h2)
    exact e.trans (decide_eq_false (by simp [n1, n2]))
theorem vr_L_asked (vs H Q E) (h : sp_L_asked K vs H Q E) : (rd_L_asked K) { nx := fun _ H' => Q .non H', rt := Q } (start ["_law_term_here", "_law_path", "_law_found", "_law_pile", "_law_one", "_law_name"] vs) H := by
  obtain ⟨v, t, path, ps, rfl, tv, ⟨ok, hd, hps⟩, op, q⟩ := h
  unfold rd_L_asked
  have hp7 : 4 ^ t.deep ≤ 4 ^ 7 := Nat.pow_le_pow_right (by decide) (by omega)
  have tl := tsz_le t
  have hp3 : 3 ^ t.deep ≤ 3 ^ 7 := Nat.pow_le_pow_right (by decide) (by omega)
  have nl := names_len t
  walk_at "zz"
  refine ⟨szl (by simp), fun F hF => ?_⟩
  have eF := Ex.new (o := .lst []) hF
  have gF : upd H F (.lst []) F = some (.lst []) := upd_same
  generalize upd H F _ = H1 at eF gF ⊢
  walk_at "zz"
  refine ⟨szl (by simp), fun L hL => ?_⟩
  have eL := Ex.new (o := .lst [v]) hL
  have gL : upd H1 L (.lst [v]) L = some (.lst [v]) := upd_same
  have nFL : F ≠ L := some_ne gF hL
  have gF2 := eL _ _ gF
  have L0 := ex_none eF hL
  have e2 := eF.trans eL
  generalize upd H1 L _ = H2 at eL gL gF2 e2 ⊢
  clear eF eL gF hL
  walk_at "zz"
  refine ⟨_, _, rfl, ?_⟩
  walk_at "zz"
  have key : ∃ W : Nat → L2.St → Hp → Prop, W = fun m σ' H' => ∃ (P : List Trm) (N1 : List Str) (us : List V) (y4 y5 : Option V), m = (P.map tsz).sum ∧ m ≤ tsz t ∧ σ' = [some v, some (.str path), some (.ref F), some (.ref L), y4, y5] ∧ H' F = some (.lst ((dd [] (N1.map fun x => path ++ x)).map V.str)) ∧ H' L = some (.lst us) ∧ TuAll H' us (P.map Trm.d) ∧ N1 ++ P.reverse.flatMap Trm.names = t.names ∧ (∀ x ∈ P, x.ok ps ∧ x.deep ≤ 8) ∧ But [F, L] H2 H' := ⟨_, rfl⟩
  obtain ⟨W, hW⟩ := key
  refine z_while W (tsz t) (by
    rw [hW]
    exact ⟨[t], [], [v], _, _, by simp, Nat.le_refl _, rfl, gF2, gL, .cons (tv.ex e2) .nil, by simp, (fun x hx => by rw [List.mem_singleton.mp hx]; exact ⟨ok, by omega⟩), But.refl⟩) fun m σ' H' h => ?_
  rw [hW] at h
  obtain ⟨P, N1, us, y4, y5, hm, hmt, rfl, gFj, gLj, tus, nm, okP, b⟩ := h
  have tk : Tk H2 H' := .but b fun p hp => by
    simp only [List.mem_cons, List.not_mem_nil, or_false] at hp
    rcases hp with rfl | rfl
    · exact ⟨_, gF2⟩
    · exact ⟨_, gL⟩
  walk_at "zz"
  refine ⟨szl (by simp), fun c hc => ?_⟩
  refine z_neTu (l := P) (f := Trm.d) (sq_of gLj) tus (fun x hx => ?_) hc ?_
  · have h1 := trm_cl hps x (okP x hx).1
    have h2 := (okP x hx).2
    exact ⟨h1.1, by omega⟩
  have e3 := Ex.new (o := .lst []) hc
  have gF3 := e3 _ _ gFj
  have gL3 := e3 _ _ gLj
  have tus3 := tus.ex e3
  have b3 := b.trans (But.ex e3)
  generalize upd H' c _ = H3 at e3 gF3 gL3 tus3 b3 ⊢
  clear gFj gLj tus b e3
  rcases List.eq_nil_or_concat P with rfl | ⟨P', one, rfl⟩
  · refine ⟨_, rfl, ite_f ?_⟩
    walk_at "zz"
    have nm' : N1 = t.names := by simpa using nm
    rw [nm'] at gF3
    exact q F H3 hF (((But.ex e2 (B := [F, L])).trans b3).exOf fun p hp => by
      simp only [List.mem_cons, List.not_mem_nil, or_false] at hp
      rcases hp with rfl | rfl
      · exact hF
      · exact L0) gF3
  rw [List.concat_eq_append] at *
  rw [show (!(P' ++ [one]).isEmpty) = true by cases P' <;> rfl]
  refine ⟨_, rfl, ite_t ⟨fun σ'' H'' => ∃ m', m' < m ∧ W m' σ'' H'', fun _ _ h => h, ?_⟩⟩
  rw [List.map_append] at tus3
  obtain ⟨us', u, rfl, tus', tu⟩ := ta_last tus3
  walk_at "zz"
  refine z_tyl (sq_of gL3) ?_
  refine z_rpopLast gL3 ?_
  have b4 : But [L] H3 (upd H3 L (.lst us')) := But.put (by simp)
  have tk4 : Tk H3 (upd H3 L (.lst us')) := .putL gL3
  have gF4 := b4 _ _ (by simp [nFL]) gF3
  have gL4 : upd H3 L (.lst us') L = some (.lst us') := upd_same
  have tus4 := tus'.mono tk4
  have tu4 := tu.mono tk4
  have bb4 := b3.trans (b4.mono (by simp))
  generalize upd H3 L _ = H4 at gF4 gL4 tus4 tu4 bb4 ⊢
  obtain ⟨b1, rest, rfl, hone⟩ := tu_trm tu4
  walk_at "zz"
  refine z_ixT (st_of hone) (show atI _ ((0 : Nat) : Int) = _ from atI_nat rfl) ?_
  walk_at "zz"
  refine ⟨szl (by simp), fun c2 hc2 => ?_⟩
  have e5 := Ex.new (o := .tup [V.str (Str.ofString "name"), V.str (Str.ofString "of")]) hc2
  refine z_inT (st_of upd_same) rfl rfl ?_
  have hone5 := e5 _ _ hone
  have gF5 := e5 _ _ gF4
  have gL5 := e5 _ _ gL4
  have tus5 := tus4.ex e5
  have tu5 := tu4.ex e5
  have bb5 := bb4.trans (But.ex e5)
  generalize upd H4 c2 _ = H5 at e5 hone5 gF5 gL5 tus5 tu5 bb5 ⊢
  clear hone gF4 gL4 tus4 tu4 bb4 e5 hc2 gF3 gL3 tus3 tus' tu b3 b4 tk4
  have okone := okP one (by simp)
  have szo := tsz_kids one
  have szP : ((P' ++ [one]).map tsz).sum = (P'.map tsz).sum + tsz one := by simp
  have lnm : N1.length + one.names.length ≤ t.names.length := by
    rw [← nm, List.length_append]
    simp
  have ll := dd_len (N1.map fun x => path ++ x) []
  rw [List.length_map] at ll
  -- the kids are put on the pile
  have fin : ∀ (D : Ends) (HE : Hp) (N2 : List Str) (y5 : Option V), (∀ σ H, (∃ m', m' < m ∧ W m' σ H) → D.nx σ H) → HE F = some (.lst ((dd [] (N2.map fun x => path ++ x)).map V.str)) → HE L = some (.lst us') → TuAll HE us' (P'.map Trm.d) → Tu HE (.ref b1) one.d → N2 ++ one.kids.flatMap Trm.names ++ P'.reverse.flatMap Trm.names = t.names → But [F, L] H2 HE → tDrop (tBM K "list" rExtend (tVar 3) (tCons (tRevL K (tCall (sp_L_kids K) [] E0 (tCons (tVar 4) tNil))) tNil)) D [some v, some (.str path), some (.ref F), some (.ref L), some (.ref b1), y5] HE := fun D HE N2 y5 hD gFE gLE tusE tuE nmE bE => by
    walk_at "zz"
    refine z_tyl (sq_of gLE) ?_
    walk_at "zz"
    refine ⟨.ref b1, one, rfl, tuE, fun r H6 ks fr e6 gr tks => ?_⟩
    refine ⟨r, ks, rfl, sq_of gr, fun p7 hp7 => ?_⟩
    have e7 := Ex.new (o := .lst ks.reverse) hp7
    have g7 : upd H6 p7 (.lst ks.reverse) p7 = some (.lst ks.reverse) := upd_same
    generalize upd H6 p7 _ = H7 at e7 g7 ⊢
    have e67 := e6.trans e7
    have gL7 := e67 _ _ gLE
    have lks := tks.len
    have lus := tusE.len
    rw [List.length_map] at lks lus
    have pl := psz_len P'
    have kl := psz_len one.kids
    walk_at "zz"
    have b8 : But [L] H7 (upd H7 L (.lst (us' ++ ks.reverse))) := But.put (by simp)
    have tk8 : Tk H7 (upd H7 L (.lst (us' ++ ks.reverse))) := .putL gL7
    refine ⟨L, p7, us', ks.reverse, rfl, rfl, gL7, g7, Evl.sz_of (by rw [List.length_reverse]; omega), hD _ _ ⟨((P' ++ one.kids.reverse).map tsz).sum, ?_, ?_⟩⟩
    · have : ((P' ++ one.kids.reverse).map tsz).sum = (P'.map tsz).sum + (one.kids.map tsz).sum := by
        rw [List.map_append, List.sum_append, List.map_reverse, List.sum_reverse]
      omega
    · rw [hW]
      refine ⟨P' ++ one.kids.reverse, N2, _, _, _, rfl, ?_, rfl, b8 _ _ (by simp [nFL]) (e67 _ _ gFE), upd_same, ?_, ?_, fun x hx => ?_, ((bE.trans (But.ex e67)).trans (b8.mono (by simp)))⟩
      · have : ((P' ++ one.kids.reverse).map tsz).sum = (P'.map tsz).sum + (one.kids.map tsz).sum := by
          rw [List.map_append, List.sum_append, List.map_reverse, List.sum_reverse]
        omega
      · rw [List.map_append, List.map_reverse]
        exact ((tusE.ex e67).mono tk8).app ((tks.ex e7).rev.mono tk8)
      · rw [List.reverse_append, List.reverse_reverse, List.flatMap_append, ← List.append_assoc]
        exact nmE
      · rcases List.mem_append.mp hx with hx | hx
        · exact okP x (List.mem_append_left _ hx)
        · have hx := List.mem_reverse.mp hx
          exact ⟨kid_ok okone.1 hx, by have := kid_deep hx; have := okone.2; omega⟩
  rcases in_no one with ⟨x, rfl⟩ | ⟨u, d, rfl⟩ | ⟨h1, h2⟩
  rotate_left
  rotate_left
  · rw [show (if false = true then !inV (.str (kd one)) [.str (Str.ofString "name"), .str (Str.ofString "of")] else inV (.str (kd one)) [.str (Str.ofString "name"), .str (Str.ofString "of")]) = false from h1]
    walk_at "zz"
    refine fin _ _ N1 _ ?_ gF5 gL5 tus5 tu5 ?_ bb5
    · exact fun _ _ h => h
    · rw [← h2, ← nm]
      simp
  · obtain ⟨b9, x0, x1, eb, hb, y0, y1⟩ := tu2 tu5
    cases eb
    cases tu_str y0
    cases tu_str y1
    have nx : nmS x := okone.1
    have oz := op.app nx.ok
    have ne : path ++ x ≠ Str.ofString "" := fun z => by
      have h1 := nx.1
      have := congrArg Str.length z
      rw [txt_app_len] at this
      rw [show (Str.ofString "" : Str).length = 0 by decide +kernel] at this
      omega
    rw [show (if false = true then !inV (.str (kd (.name x))) [.str (Str.ofString "name"), .str (Str.ofString "of")] else inV (.str (kd (.name x))) [.str (Str.ofString "name"), .str (Str.ofString "of")]) = true from (by decide +kernel : inV (.str (Str.ofString "name")) [.str (Str.ofString "name"), .str (Str.ofString "of")] = true)]
    walk_at "zz"
    refine ⟨b1, [V.str (Str.ofString "name"), V.str x], rfl, st_of hb, (fun h => absurd h.1 (by show ¬ HT.sIx 2 0 (some 1) = 0; decide)), fun _ p8 hp8 => ?_⟩
    have e8 := Ex.new (o := .tup (cutV [V.str (Str.ofString "name"), V.str x] (some 1) none)) hp8
    have g8 : upd H5 p8 (.tup (cutV [V.str (Str.ofString "name"), V.str x] (some 1) none)) p8 = some (.tup [V.str x]) := by
      rw [upd_same]
      exact congrArg (fun z => some (HO.tup z)) (cutv_drop _ 1)
    generalize upd H5 p8 _ = H8 at e8 g8 ⊢
    walk_at "zz"
    refine ⟨_, p8, [x], rfl, rfl, .inr (st_of g8), ?_, ?_⟩
    · have := nx.ok.1
      show x.length + 0 + 1 * (Str.ofString "." : Str).length ≤ _
      rw [show (Str.ofString "." : Str).length = 1 by decide +kernel]
      omega
    rw [join1]
    refine z_addS (by rw [← txt_app_len]; exact oz.sz (by decide)) ?_
    walk_at "zz"
    rw [show decide (V.str (path ++ x) = V.str (Str.ofString "")) = false from decide_eq_false fun z => ne (by injection z)]
    refine ite_t ?_
    walk_at "zz"
    have gF8 := e8 _ _ gF5
    refine z_inL (sq_of gF8) rfl (strs_flat _) ?_
    rw [show (if true = true then !inV (.str (path ++ x)) ((dd [] (N1.map fun x => path ++ x)).map V.str) else inV (.str (path ++ x)) ((dd [] (N1.map fun x => path ++ x)).map V.str)) = !decide (path ++ x ∈ dd [] (N1.map fun x => path ++ x)) by rw [inV_strs] <;> rfl]
    have snoc : dd [] ((N1 ++ [x]).map fun x => path ++ x) = if path ++ x ∈ dd [] (N1.map fun x => path ++ x) then dd [] (N1.map fun x => path ++ x) else dd [] (N1.map fun x => path ++ x) ++ [path ++ x] := by
      rw [List.map_append]
      exact dd_snoc _ _ _
    by_cases hm_ : path ++ x ∈ dd [] (N1.map fun x => path ++ x)
    · rw [decide_eq_true hm_]
      walk_at "zz"
      refine fin _ _ (N1 ++ [x]) _ ?_ (by rw [snoc, if_pos hm_]; exact gF8) (e8 _ _ gL5) (tus5.ex e8) (tu5.ex e8) ?_ (bb5.trans (But.ex e8))
      · exact fun _ _ h => h
      · rw [← nm]
        simp [Trm.kids, Trm.names]
    · rw [decide_eq_false hm_]
      refine ⟨_, rfl, ite_t ?_⟩
      walk_at "zz"
      refine z_tyl (sq_of gF8) ?_
      walk_at "zz"
      have b9_ : But [F] H8 (upd H8 F (.lst ((dd [] (N1.map fun x => path ++ x)).map V.str ++ [.str (path ++ x)]))) := But.put (by simp)
      have tk9 : Tk H8 (upd H8 F (.lst ((dd [] (N1.map fun x => path ++ x)).map V.str ++ [.str (path ++ x)]))) := .putL gF8
      refine z_rapp gF8 (Nat.lt_of_le_of_lt (show ((dd [] (N1.map fun x => path ++ x)).map V.str).length ≤ 3000 by rw [List.length_map]; simp at ll; omega) (by decide)) ?_
      refine fin _ _ (N1 ++ [x]) _ ?_ (by rw [upd_same, snoc, if_neg hm_, List.map_append] <;> rfl) (b9_ _ _ (by simp [nFL.symm]) (e8 _ _ gL5)) ((tus5.ex e8).mono tk9) ((tu5.ex e8).mono tk9) ?_ ((bb5.trans (But.ex e8)).trans (b9_.mono (by simp)))
      · exact fun _ _ h => h
      · rw [← nm]
        simp [Trm.kids, Trm.names]
  · obtain ⟨b9, x0, x1, x2, eb, hb, y0, y1, y2⟩ := tu3 tu5
    cases eb
    cases tu_str y0
    cases tu_str y1
    cases tu_str y2
    have nx : nmS u ∧ nmS d := okone.1
    have oz := op.app ((nx.1.ok.app (okT.of "." (n := 1) (by decide +kernel))).app nx.2.ok)
    have ne : path ++ (u ++ Str.ofString "." ++ d) ≠ Str.ofString "" := fun z => by
      have h1 := nx.1.1
      have := congrArg Str.length z
      rw [txt_app_len, txt_app_len, txt_app_len] at this
      rw [show (Str.ofString "" : Str).length = 0 by decide +kernel] at this
      omega
    rw [show (if false = true then !inV (.str (kd (.of_ u d))) [.str (Str.ofString "name"), .str (Str.ofString "of")] else inV (.str (kd (.of_ u d))) [.str (Str.ofString "name"), .str (Str.ofString "of")]) = true from (by decide +kernel : inV (.str (Str.ofString "of")) [.str (Str.ofString "name"), .str (Str.ofString "of")] = true)]
    walk_at "zz"
    refine ⟨b1, [V.str (Str.ofString "of"), V.str u, V.str d], rfl, st_of hb, (fun h => absurd h.1 (by show ¬ HT.sIx 3 0 (some 1) = 0; decide)), fun _ p8 hp8 => ?_⟩
    have e8 := Ex.new (o := .tup (cutV [V.str (Str.ofString "of"), V.str u, V.str d] (some 1) none)) hp8
    have g8 : upd H5 p8 (.tup (cutV [V.str (Str.ofString "of"), V.str u, V.str d] (some 1) none)) p8 = some (.tup [V.str u, V.str d]) := by
      rw [upd_same]
      exact congrArg (fun z => some (HO.tup z)) (cutv_drop _ 1)
    generalize upd H5 p8 _ = H8 at e8 g8 ⊢
    walk_at "zz"
    refine ⟨_, p8, [u, d], rfl, rfl, .inr (st_of g8), ?_, ?_⟩
    · have := nx.1.ok.1
      have := nx.2.ok.1
      show u.length + (d.length + 0) + 2 * (Str.ofString "." : Str).length ≤ _
      rw [show (Str.ofString "." : Str).length = 1 by decide +kernel]
      omega
    rw [join2]
    refine z_addS (by rw [← txt_app_len]; exact oz.sz (by decide)) ?_
    walk_at "zz"
    rw [show decide (V.str (path ++ (u ++ Str.ofString "." ++ d)) = V.str (Str.ofString "")) = false from decide_eq_false fun z => ne (by injection z)]
    refine ite_t ?_
    walk_at "zz"
    have gF8 := e8 _ _ gF5
    refine z_inL (sq_of gF8) rfl (strs_flat _) ?_
    rw [show (if true = true then !inV (.str (path ++ (u ++ Str.ofString "." ++ d))) ((dd [] (N1.map fun x => path ++ x)).map V.str) else inV (.str (path ++ (u ++ Str.ofString "." ++ d))) ((dd [] (N1.map fun x => path ++ x)).map V.str)) = !decide (path ++ (u ++ Str.ofString "." ++ d) ∈ dd [] (N1.map fun x => path ++ x)) by rw [inV_strs] <;> rfl]
    have snoc : dd [] ((N1 ++ [u ++ Str.ofString "." ++ d]).map fun x => path ++ x) = if path ++ (u ++ Str.ofString "." ++ d) ∈ dd [] (N1.map fun x => path ++ x) then dd [] (N1.map fun x => path ++ x) else dd [] (N1.map fun x => path ++ x) ++ [path ++ (u ++ Str.ofString "." ++ d)] := by
      rw [List.map_append]
      exact dd_snoc _ _ _
    by_cases hm_ : path ++ (u ++ Str.ofString "." ++ d) ∈ dd [] (N1.map fun x => path ++ x)
    · rw [decide_eq_true hm_]
      walk_at "zz"
      refine fin _ _ (N1 ++ [u ++ Str.ofString "." ++ d]) _ ?_ (by rw [snoc, if_pos hm_]; exact gF8) (e8 _ _ gL5) (tus5.ex e8) (tu5.ex e8) ?_ (bb5.trans (But.ex e8))
      · exact fun _ _ h => h
      · rw [← nm]
        simp [Trm.kids, Trm.names]
    · rw [decide_eq_false hm_]
      refine ⟨_, rfl, ite_t ?_⟩
      walk_at "zz"
      refine z_tyl (sq_of gF8) ?_
      walk_at "zz"
      have b9_ : But [F] H8 (upd H8 F (.lst ((dd [] (N1.map fun x => path ++ x)).map V.str ++ [.str (path ++ (u ++ Str.ofString "." ++ d))]))) := But.put (by simp)
      have tk9 : Tk H8 (upd H8 F (.lst ((dd [] (N1.map fun x => path ++ x)).map V.str ++ [.str (path ++ (u ++ Str.ofString "." ++ d))]))) := .putL gF8
      refine z_rapp gF8 (Nat.lt_of_le_of_lt (show ((dd [] (N1.map fun x => path ++ x)).map V.str).length ≤ 3000 by rw [List.length_map]; simp at ll; omega) (by decide)) ?_
      refine fin _ _ (N1 ++ [u ++ Str.ofString "." ++ d]) _ ?_ (by rw [upd_same, snoc, if_neg hm_, List.map_append] <;> rfl) (b9_ _ _ (by simp [nFL.symm]) (e8 _ _ gL5)) ((tus5.ex e8).mono tk9) ((tu5.ex e8).mono tk9) ?_ ((bb5.trans (But.ex e8)).trans (b9_.mono (by simp)))
      · exact fun _ _ h => h
      · rw [← nm]
        simp [Trm.kids, Trm.names]
theorem WAt.bu {H H' : Hp} {v : V} {e : Str × Y.Part} {B : List Addr} (h : WAt H v e) (b : But B H H') (l : ∀ p ∈ B, ∃ xs, H p = some (.lst xs)) : WAt H' v e := by
  obtain ⟨a, vp, rfl, h1, h2⟩ := h
  exact ⟨a, vp, rfl, b _ _ (fun hm => by
    obtain ⟨xs, e⟩ := l _ hm
    rw [h1] at e
    cases e) h1, h2.bu b l⟩
theorem W2.bu {H H' : Hp} {B : List Addr} (b : But B H H') (l : ∀ p ∈ B, ∃ xs, H p = some (.lst xs)) : ∀ {vs : List V} {es : List (Str × Y.Part)}, W2 H vs es → W2 H' vs es
  | [], [], _ => trivial
  | _ :: _, _ :: _, h => ⟨h.1.bu b l, W2.bu b l h.2⟩
  | [], _ :: _, h => h.elim
  | _ :: _, [], h => h.elim
theorem W2.app {H : Hp} : ∀ {vs us : List V} {es fs : List (Str × Y.Part)}, W2 H vs es → W2 H us fs → W2 H (vs ++ us) (es ++ fs)
  | [], _, [], _, _, h => h
  | _ :: _, _, _ :: _, _, h, g => ⟨h.1, W2.app h.2 g⟩
  | [], _, _ :: _, _, h, _ => h.elim
  | _ :: _, _, [], _, h, _ => h.elim
theorem no_L_walked : ∀ vs H Q E, ¬ sp_L_walked K 0 vs H Q E := fun vs H Q E h => by
  obtain ⟨_, _, _, _, _, _, _, _, _, _, _, _, _, h, _⟩ := h
  omega
/-- a use's part stands ahead -/
theorem use_ahead {y : Yard} (Y_ : YardOk y) {k : Nat} {pt : Y.Part} (hk : y[k]? = some pt) {x q : Str} {ws : List Wd} {ts : List Trm} (h : Y.Row.use x q ws ts ∈ pt.rows) : nmS x ∧ ∃ i p, i < k ∧ y[i]? = some p ∧ p.name = q := by
  obtain ⟨zs, hds, hr, sts, m, _⟩ := Y_.md k pt hk
  rcases List.mem_append.mp (m.perm.mem_iff.mp h) with h | h
  · obtain ⟨s, hs, hrow⟩ := List.mem_flatMap.mp h
    cases s with
    | lt b x' w t =>
      rcases List.mem_cons.mp hrow with e | hrow
      · cases b <;> cases e
      · cases List.mem_singleton.mp hrow
    | us x' p ws' ts' =>
      cases List.mem_singleton.mp hrow
      obtain ⟨h1, h2, _⟩ := m.sok _ hs
      obtain ⟨i, hi, e⟩ := List.mem_iff_getElem.mp h1
      rw [List.length_take] at hi
      rw [List.getElem_take] at e
      exact ⟨h2, i, _, by omega, by rw [List.getElem?_eq_getElem (by omega), e], rfl⟩
  · obtain ⟨hd, _, c⟩ := m.hcp _ h
    cases c
theorem name_inj {y : Yard} (Y_ : YardOk y) {i j : Nat} {p p' : Y.Part} (hi : y[i]? = some p) (hj : y[j]? = some p') (e : p.name = p'.name) : i = j := by
  have nd := Y_.nd
  obtain ⟨li, ei⟩ := List.getElem?_eq_some_iff.mp hi
  obtain ⟨lj, ej⟩ := List.getElem?_eq_some_iff.mp hj
  have pw := List.pairwise_iff_getElem.mp nd
  rcases Nat.lt_trichotomy i j with h | h | h
  · exact absurd (show (y.map Y.Part.name)[i]'(by rw [List.length_map]; exact li) = (y.map Y.Part.name)[j]'(by rw [List.length_map]; exact lj) by rw [List.getElem_map, List.getElem_map, ei, ej, e]) (pw i j _ _ h)
  · exact h
  · exact absurd (show (y.map Y.Part.name)[j]'(by rw [List.length_map]; exact lj) = (y.map Y.Part.name)[i]'(by rw [List.length_map]; exact li) by rw [List.getElem_map, List.getElem_map, ei, ej, e]) (pw j i _ _ h)
theorem fnd_at {y : Yard} (Y_ : YardOk y) {i : Nat} {p : Y.Part} (hi : y[i]? = some p) : fnd y p.name = some p := by
  unfold fnd
  cases h : y.find? fun p' => decide (p'.name = p.name) with
  | none => exact absurd (List.find?_eq_none.mp h p (List.mem_of_getElem? hi)) (by simp)
  | some p' =>
    have h1 := List.find?_some h
    obtain ⟨j, hj, e⟩ := List.mem_iff_getElem.mp (List.mem_of_find?_eq_some h)
    have hj' : y[j]? = some p' := by rw [List.getElem?_eq_getElem hj, e]
    have : j = i := name_inj Y_ hj' hi (of_decide_eq_true h1)
    rw [this, hi] at hj'
    exact hj'.symm
/-- the row's own walk -/
def rwk (y : Yard) (n : Nat) (path : Str) (r : Y.Row) : List (Str × Y.Part) := match r with
  | .use x q _ _ => match fnd y q with
    | some p => wlk y n (path ++ x ++ Str.ofString ".") p
    | none => []
  | _ => []
theorem wlk_succ (y : Yard) (n : Nat) (path : Str) (pt : Y.Part) : wlk y (n + 1) path pt = (path, pt) :: pt.rows.flatMap (rwk y n path) := rfl
theorem rk_use (r : Y.Row) : decide (V.str (rk r) = V.str (Str.ofString "use")) = (match r with | .use .. => true | _ => false) := by
  cases r
  · exact kw_dec (a := Str.ofString "in") (by decide +kernel)
  · exact kw_dec (a := Str.ofString "out") (by decide +kernel)
  · exact kw_dec (a := Str.ofString "wire") (by decide +kernel)
  · exact kw_dec (a := Str.ofString "rest") (by decide +kernel)
  · exact kw_dec (a := Str.ofString "let") (by decide +kernel)
  · exact decide_eq_true rfl
  · exact kw_dec (a := Str.ofString "table") (by decide +kernel)
  · exact kw_dec (a := Str.ofString "memory") (by decide +kernel)
theorem vr_L_walked (n : Nat) (vs H Q E) (h : sp_L_walked K (n + 1) vs H Q E) : (rd_L_walked K (sp_L_walked K n)) { nx := fun _ H' => Q .non H', rt := Q } (start ["_law_yard_here", "_law_part_here", "_law_path", "_law_found", "_law_row", "_law_used_here", "_law_one"] vs) H := by
  obtain ⟨ty, fl, vp, path, y, us, fs, k, pt, es, rfl, Y_, ⟨gty, pts⟩, ⟨hk, hkn, hk3⟩, pa, op, ⟨gfl, w2, lfs⟩, q⟩ := h
  unfold rd_L_walked
  have PP := Y_.pu pt (List.mem_of_getElem? hk)
  walk_at "zz"
  refine z_tyl (sq_of gfl) ?_
  walk_at "zz"
  refine ⟨szl (by simp), fun t0 ht0 => ?_⟩
  have e0 := Ex.new (o := .tup [.str path, vp]) ht0
  have wa : WAt (upd H t0 (.tup [.str path, vp])) (.ref t0) (path, pt) := ⟨t0, vp, rfl, upd_same, pa.ex e0⟩
  have gfl0 := e0 _ _ gfl
  have gty0 := e0 _ _ gty
  have w20 := w2.bu (B := []) (But.ex e0) (fun _ h => by cases h)
  have pa0 := pa.ex e0
  have pts0 := pts.bu (B := []) (But.ex e0) (fun _ h => by cases h)
  have bb0 : But [fl] H (upd H t0 (.tup [.str path, vp])) := But.ex e0
  generalize upd H t0 _ = H0 at e0 wa gfl0 gty0 w20 pa0 pts0 bb0 ⊢
  walk_at "zz"
  have sl : (4000000 : Nat) < sizeLine := by decide
  have X0 : 0 < 31 ^ k := Nat.pow_pos (by decide)
  have X1 : 31 ^ (k + 1) = 31 ^ k * 31 := Nat.pow_succ 31 k
  refine z_rapp gfl0 (by omega) ?_
  have b1 : But [fl] H0 (upd H0 fl (.lst (fs ++ [.ref t0]))) := But.put (by simp)
  have lf : ∀ x ∈ [fl], ∃ xs, H0 x = some (.lst xs) := fun x hx => by
    rw [List.mem_singleton.mp hx]
    exact ⟨_, gfl0⟩
  have gfl1 : upd H0 fl (.lst (fs ++ [.ref t0])) fl = some (.lst (fs ++ [.ref t0])) := upd_same
  have w21 : W2 (upd H0 fl (.lst (fs ++ [.ref t0]))) (fs ++ [.ref t0]) (es ++ [(path, pt)]) := (w20.bu b1 lf).app ⟨wa.bu b1 lf, trivial⟩
  have gty1 := b1 _ _ (by simp [show ty ≠ fl from fun z => by rw [z, gfl] at gty; cases gty]) gty0
  have pa1 := pa0.bu b1 lf
  have pts1 := pts0.bu b1 lf
  have bb1 := bb0.trans b1
  generalize upd H0 fl _ = H1 at b1 gfl1 w21 gty1 pa1 pts1 bb1 ⊢
  clear wa gfl0 gty0 w20 pa0 pts0 bb0 lf b1
  obtain ⟨bu, pa_, ra, o, rs, rfl, hbu, hpa, od, hra, trs⟩ := id pa1
  have lrs := trs.len
  rw [List.length_map] at lrs
  have lr := PP.rl
  walk_at "zz"
  refine z_ixT (st_of hbu) (show atI _ ((2 : Nat) : Int) = _ from atI_nat rfl) ?_
  walk_at "zz"
  refine z_FT (st_of hra) (fun j σ' H' => ∃ (y4 y5 : Option V) (fs' : List V), σ' = [some (.ref ty), some (.ref bu), some (.str path), some (.ref fl), y4, y5, none] ∧ H' fl = some (.lst fs') ∧ W2 H' fs' (es ++ [(path, pt)] ++ (pt.rows.take j).flatMap (rwk y n path)) ∧ fs'.length ≤ fs.length + 1 + j * 31 ^ k ∧ But [fl] H1 H') ⟨_, _, _, rfl, gfl1, by rw [List.take_zero, List.flatMap_nil, List.append_nil]; exact w21, by simp, But.refl⟩ (fun j σ' H' hj h => ?_) (fun j x σ' H' hj hx h => ?_) (fun σ' H' h => ?_)
  · obtain ⟨_, _, _, _, _, _, _, b⟩ := h
    exact st_of (b _ _ (by simp [show ra ≠ fl from fun z => by rw [z, gfl1] at hra; cases hra]) hra)
  · obtain ⟨y4, y5, fs', rfl, gj, wj, lj, bj⟩ := h
    have lf1 : ∀ x ∈ [fl], ∃ xs, H1 x = some (.lst xs) := fun x hx => by
      rw [List.mem_singleton.mp hx]
      exact ⟨_, gfl1⟩
    have tkj : Tk H1 H' := .but bj lf1
    have ptsj := pts1.bu bj lf1
    have gtyj := tkj _ _ gty1
    obtain ⟨dd_, hdd, tdd⟩ := trs.get hx
    rw [List.getElem?_map] at hdd
    obtain ⟨r, hr, rfl⟩ := Option.map_eq_some_iff.mp hdd
    have tr := tdd.mono tkj
    have sX : (j + 1) * 31 ^ k = j * 31 ^ k + 31 ^ k := Nat.succ_mul j _
    by_cases hu : ∃ x q ws ts, r = .use x q ws ts
    · obtain ⟨nx_, q_, ws, ts, rfl⟩ := hu
      obtain ⟨nmx, i', p', hi', hp', rfl⟩ := use_ahead Y_ hk (List.mem_of_getElem? hr)
      obtain ⟨b, x0, x1, x2, x3, x4, rfl, hb, z0, z1, z2, z3, z4⟩ := tu5 tr
      cases tu_str z0
      cases tu_str z1
      cases tu_str z2
      obtain ⟨v', hv'⟩ : ∃ v, us[i']? = some v := ⟨_, List.getElem?_eq_getElem (by rw [pts.1]; exact (List.getElem?_eq_some_iff.mp hp').1)⟩
      have li' : i' < y.length := (List.getElem?_eq_some_iff.mp hp').1
      walk_at "zz"
      refine z_ixT (st_of hb) (show atI _ ((0 : Nat) : Int) = _ from atI_nat rfl) ?_
      walk_at "zz"
      try (rw [show decide (V.str (Str.ofString "use") = V.str (Str.ofString "use")) = true from decide_eq_true rfl]; refine ite_t ?_; walk_at "zz")
      refine z_CTg (st_of gtyj) (fun D m H2 => Ex H' H2 ∧ H2 D = some (.lst (if i' < m then [v'] else []))) (fun D hD => ⟨Ex.new hD, upd_same⟩) (fun D m H2 hD p => st_of (p.1 _ _ gtyj)) (fun D m x H2 hD hm hxm p => ?_) (fun D H2 hD p => ?_)
      · obtain ⟨e, g⟩ := p
        obtain ⟨pm, hpm⟩ : ∃ pm, y[m]? = some pm := ⟨_, List.getElem?_eq_getElem (by rw [← pts.1]; exact hm)⟩
        obtain ⟨bm, pam, ram, om, rsm, rfl, hbm, _⟩ := (ptsj.2 m x pm hxm hpm).ex e
        refine z_gname ⟨rfl, ?_⟩
        walk_at "zz"
        refine z_ixT (st_of hbm) (show atI _ ((0 : Nat) : Int) = _ from atI_nat rfl) ?_
        walk_at "zz"
        refine z_ixT (st_of (e _ _ hb)) (show atI _ ((2 : Nat) : Int) = _ from atI_nat rfl) ?_
        walk_at "zz"
        by_cases hmi : m = i'
        · subst hmi
          rw [hp'] at hpm
          cases hpm
          rw [hv'] at hxm
          cases hxm
          rw [decide_eq_true rfl]
          refine ite_t ?_
          walk_at "zz"
          refine ⟨_, g, by rw [if_neg (by omega)]; exact Nat.lt_trans (by decide : 0 < 4000000) sl, e.mut hD, ?_⟩
          rw [upd_same, if_neg (by omega), if_pos (by omega)] <;> rfl
        · rw [decide_eq_false (fun z => hmi (name_inj Y_ hpm hp' (by injection z)))]
          refine ite_f ⟨e, ?_⟩
          by_cases hlt : i' < m
          · rw [if_pos (by omega)]
            rw [if_pos hlt] at g
            exact g
          · rw [if_neg (by omega)]
            rw [if_neg hlt] at g
            exact g
      obtain ⟨e, g⟩ := p
      rw [pts.1, if_pos li'] at g
      walk_at "zz"
      refine z_ixL (sq_of g) (show atI _ ((0 : Nat) : Int) = _ from atI_nat rfl) ?_
      walk_at "zz"
      have o0 : okT path 63 := op.mono (by omega)
      have o1 := o0.app nmx.ok
      refine z_ixT (st_of (e _ _ hb)) (show atI _ ((1 : Nat) : Int) = _ from atI_nat rfl) ?_
      refine z_addS (by rw [← txt_app_len]; exact o1.sz (by decide)) ?_
      walk_at "zz"
      refine z_addS (by rw [← txt_app_len]; exact (o1.app (okT.of "." (n := 1) (by decide +kernel))).sz (by decide)) ?_
      walk_at "zz"
      have mX : 31 ^ (i' + 1) ≤ 31 ^ k := Nat.pow_le_pow_right (by decide) hi'
      have jX : j * 31 ^ k ≤ 29 * 31 ^ k := Nat.mul_le_mul_right _ (by omega)
      refine ⟨ty, fl, v', path ++ nx_ ++ Str.ofString ".", y, us, fs', i', p', _, rfl, Y_, ⟨e _ _ gtyj, ptsj.bu (B := []) (But.ex e) (fun _ h => by cases h)⟩, ⟨hp', by omega, by omega⟩, (ptsj.2 i' v' p' hv' hp').ex e, ((op.app nmx.ok).app (okT.of "." (n := 1) (by decide +kernel))).mono (by omega), ⟨e _ _ gj, wj.bu (B := []) (But.ex e) (fun _ h => by cases h), by omega⟩, fun H3 fs3 g3 w3 l3 b3 => ?_⟩
      refine ⟨_, _, fs3, rfl, g3, ?_, by omega, (bj.trans (But.ex e)).trans b3⟩
      rw [take_snoc hr, List.flatMap_append, ← List.append_assoc]
      have : [Y.Row.use nx_ p'.name ws ts].flatMap (rwk y n path) = wlk y n (path ++ nx_ ++ Str.ofString ".") p' := by
        rw [List.flatMap_cons, List.flatMap_nil, List.append_nil]
        show (match fnd y p'.name with
          | some p => wlk y n (path ++ nx_ ++ Str.ofString ".") p
          | none => []) = _
        rw [fnd_at Y_ hp']
      rw [this]
      exact w3
    · have hf : decide (V.str (rk r) = V.str (Str.ofString "use")) = false := by
        rw [rk_use]
        cases r with
        | use => exact absurd ⟨_, _, _, _, rfl⟩ hu
        | _ => rfl
      have hw : rwk y n path r = [] := by
        cases r with
        | use => exact absurd ⟨_, _, _, _, rfl⟩ hu
        | _ => rfl
      obtain ⟨b, rest, rfl, hb, _⟩ := tu_row tr
      walk_at "zz"
      refine z_ixT (st_of hb) (show atI _ ((0 : Nat) : Int) = _ from atI_nat rfl) ?_
      walk_at "zz"
      rw [hf]
      refine ite_f ?_
      walk_at "zz"
      refine ⟨_, _, fs', rfl, gj, ?_, by omega, bj⟩
      rw [take_snoc hr, List.flatMap_append, List.flatMap_cons, hw, List.flatMap_nil, List.append_nil, List.append_nil]
      exact wj
  obtain ⟨y4, y5, fs', rfl, gj, wj, lj, bj⟩ := h
  rw [lrs] at wj lj
  rw [List.take_length] at wj
  walk_at "zz"
  have lX : pt.rows.length * 31 ^ k ≤ 30 * 31 ^ k := Nat.mul_le_mul_right _ lr
  refine q H' fs' gj ?_ (by omega) (bb1.trans bj)
  rw [wlk_succ]
  rw [List.append_assoc] at wj
  exact wj
theorem vr_parts_by_name (vs H Q E) (h : sp_parts_by_name K vs H Q E) : (rd_parts_by_name K) { nx := fun _ H' => Q .non H', rt := Q } (start ["yard", "part"] vs) H := by
  obtain ⟨ty, y, us, rfl, Y_, gty, pts, q⟩ := h
  unfold rd_parts_by_name
  have ly := Y_.ne.2
  have lu := pts.1
  walk_at "zz"
  refine z_DT (st_of gty) (fun D j H' => Ex H H' ∧ ∃ kvs, H' D = some (.dK kvs) ∧ kvs.length ≤ j ∧ ByName us y kvs j) (fun D hD => ⟨Ex.new hD, [], upd_same, Nat.le_refl _, fun i v pt hi => absurd hi (Nat.not_lt_zero i)⟩) (fun D j H' hD p => st_of (p.1 _ _ gty)) (fun D j x H' hD hj hx p => ?_) (fun D H' hD p => ?_)
  · obtain ⟨e, kvs, g, lk, bn⟩ := p
    obtain ⟨pj, hpj⟩ : ∃ pj, y[j]? = some pj := ⟨_, List.getElem?_eq_getElem (by rw [← lu]; exact hj)⟩
    obtain ⟨bm, pam, ram, om, rsm, rfl, hbm, _⟩ := (pts.2 j x pj hx hpj).ex e
    refine z_gname ⟨rfl, ?_⟩
    walk_at "zz"
    refine z_ixT (st_of hbm) (show atI _ ((0 : Nat) : Int) = _ from atI_nat rfl) ?_
    walk_at "zz"
    refine ⟨kvs, Sum.inr pj.name, rfl, g, szlt (by omega), e.mut hD, _, upd_same, ?_, fun i v pt hi hv hp => ?_⟩
    · have : (putK kvs (Sum.inr pj.name) (V.ref bm)).length ≤ kvs.length + 1 := by
        unfold putK
        split <;> simp
      omega
    · rw [valV_put]
      by_cases hij : i = j
      · subst hij
        rw [hpj] at hp
        cases hp
        rw [if_pos rfl]
        rw [hx] at hv
        exact hv
      · rw [if_neg (fun z => hij (name_inj Y_ hp hpj (by injection z)))]
        exact bn i v pt (by omega) hv hp
  obtain ⟨e, kvs, g, lk, bn⟩ := p
  exact q D H' kvs hD e g bn
theorem vr_width_number (vs H Q E) (h : sp_width_number K vs H Q E) : (rd_width_number K) { nx := fun _ H' => Q .non H', rt := Q } (start ["width", "numbers", "name", "number"] vs) H := by
  obtain ⟨v, dn, w, kvs, rfl, tv, gd, ⟨h1, h2, h3⟩, q⟩ := h
  unfold rd_width_number
  obtain ⟨b, x, y, rfl, hb, tx, ty⟩ := tu2 tv
  cases tu_str tx
  cases tu_int ty
  unfold wv at q
  walk_at "zz"
  refine z_g2 (st_of hb) ?_
  walk_at "zz"
  by_cases hw : w.1 = Str.ofString ""
  · rw [if_pos hw] at q
    rw [decide_eq_true (by rw [hw])]
    refine ite_t ?_
    walk_at "zz"
    exact RetV.go q (Ex.refl H)
  · rw [if_neg hw] at q
    obtain ⟨i, hi, i1, i2⟩ := h1 hw
    rw [hi] at q
    rw [decide_eq_false (fun z => hw (by injection z))]
    refine ite_f ?_
    walk_at "zz"
    refine ⟨dn, _, rfl, dgK gd hi, ?_⟩
    walk_at "zz"
    exact RetV.go q (Ex.refl H)
theorem vr_width_numbers (vs H Q E) (h : sp_width_numbers K vs H Q E) : (rd_width_numbers K) { nx := fun _ H' => Q .non H', rt := Q } (start ["widths", "numbers", "width"] vs) H := by
  obtain ⟨t, dn, ws, xs, kvs, rfl, gt, txs, gd, hk, lw, q⟩ := h
  unfold rd_width_numbers
  have lx := txs.len
  rw [List.length_map] at lx
  walk_at "zz"
  refine z_CTg (st_of gt) (fun D j H' => Ex H H' ∧ H' D = some (.lst (((ws.take j).map (wv kvs)).map V.int))) (fun D hD => ⟨Ex.new hD, upd_same⟩) (fun D j H' hD p => st_of (p.1 _ _ gt)) (fun D j x H' hD hj hx p => ?_) (fun D H' hD p => ?_)
  · obtain ⟨e, g⟩ := p
    obtain ⟨dd_, hdd, tdd⟩ := txs.get hx
    rw [List.getElem?_map] at hdd
    obtain ⟨w, hw, rfl⟩ := Option.map_eq_some_iff.mp hdd
    refine z_gname ⟨rfl, ?_⟩
    walk_at "zz"
    refine ⟨x, dn, w, kvs, rfl, tdd.ex e, e _ _ gd, hk w (List.mem_of_getElem? hw), fun H2 e2 => ?_⟩
    have lt : ((ws.take j).map (wv kvs)).length ≤ 10 := by rw [List.length_map, List.length_take]; omega
    refine ⟨_, e2 _ _ g, szlt (by rw [List.length_map]; omega), (e.trans e2).mut hD, ?_⟩
    rw [upd_same, take_snoc hw, List.map_append, List.map_append] <;> rfl
  obtain ⟨e, g⟩ := p
  rw [lx, List.take_length] at g
  walk_at "zz"
  refine ⟨_, _, rfl, .inl ⟨sq_of g, fun l hl => ?_⟩⟩
  exact q l _ (ex_none e hl) (e.trans (Ex.new hl)) upd_same
theorem kvN_get {ms : List Int} {z : Str} : ∀ {ps : List Str}, ps.length = ms.length → (∀ m ∈ ms, 4 ≤ m ∧ m ≤ 59) → z ∈ ps → ∃ i : Int, valV (kvN ps ms) (Sum.inr z) = some (.int i) ∧ 4 ≤ i ∧ i ≤ 59 := by
  have gen : ∀ (ps : List Str) (ms : List Int) (acc : List (Key × V)), ps.length = ms.length → (∀ m ∈ ms, 4 ≤ m ∧ m ≤ 59) → (z ∈ ps ∨ ∃ i : Int, valV acc (Sum.inr z) = some (.int i) ∧ 4 ≤ i ∧ i ≤ 59) → ∃ i : Int, valV (mergeK acc ((ps.zip (ms.map V.int)).map fun x => ((Sum.inr x.1 : Key), x.2))) (Sum.inr z) = some (.int i) ∧ 4 ≤ i ∧ i ≤ 59 := by
    intro ps
    induction ps with
    | nil =>
      intro ms acc _ _ h
      rcases h with h | h
      · cases h
      · exact h
    | cons p ps ih =>
      intro ms acc hl hm h
      cases ms with
      | nil => cases hl
      | cons m ms =>
        refine ih ms (putK acc (Sum.inr p) (.int m)) (Nat.succ.inj hl) (fun x hx => hm x (List.mem_cons_of_mem _ hx)) ?_
        by_cases hz : z = p
        · refine .inr ⟨m, ?_, hm m (List.mem_cons_self ..)⟩
          rw [valV_put, if_pos (by rw [hz])]
        · rcases h with h | ⟨i, hi, hb⟩
          · rcases List.mem_cons.mp h with h | h
            · exact absurd h hz
            · exact .inl h
          · refine .inr ⟨i, ?_, hb⟩
            rw [valV_put, if_neg (fun e => hz (by injection e))]
            exact hi
  exact fun {ps} hl hm h => gen ps ms [] hl hm (.inl h)
theorem use_more {y : Yard} (Y_ : YardOk y) {k : Nat} {pt : Y.Part} (hk : y[k]? = some pt) {x q : Str} {ws : List Wd} {ts : List Trm} (h : Y.Row.use x q ws ts ∈ pt.rows) : ∃ i p, i < k ∧ y[i]? = some p ∧ p.name = q ∧ ws.length = p.params.length ∧ (∀ w ∈ ws, useW pt.params w) ∧ ts.length = (insOf p).length := by
  obtain ⟨zs, hds, hr, sts, m, _⟩ := Y_.md k pt hk
  rcases List.mem_append.mp (m.perm.mem_iff.mp h) with h | h
  · obtain ⟨s, hs, hrow⟩ := List.mem_flatMap.mp h
    cases s with
    | lt b x' w t =>
      rcases List.mem_cons.mp hrow with e | hrow
      · cases b <;> cases e
      · cases List.mem_singleton.mp hrow
    | us x' p ws' ts' =>
      cases List.mem_singleton.mp hrow
      obtain ⟨h1, h2, h3, h4, h5, _⟩ := m.sok _ hs
      obtain ⟨i, hi, e⟩ := List.mem_iff_getElem.mp h1
      rw [List.length_take] at hi
      rw [List.getElem_take] at e
      exact ⟨i, _, by omega, by rw [List.getElem?_eq_getElem (by omega), e], rfl, h3, h4, h5⟩
  · obtain ⟨hd, _, c⟩ := m.hcp _ h
    cases c
theorem wv_ok {pt : Y.Part} {ms : List Int} (ok : msOk pt ms) (pu : PU pt) {w : Wd} (h : useW pt.params w) : wKn (kvN pt.params ms) w ∧ 4 ≤ wv (kvN pt.params ms) w ∧ wv (kvN pt.params ms) w ≤ 59 := by
  rcases h with ⟨h1, h2, h3⟩ | ⟨h1, h2⟩
  · refine ⟨⟨fun n => absurd h1 n, by omega, by omega⟩, ?_⟩
    unfold wv
    rw [if_pos h1]
    exact ⟨h2, h3⟩
  · obtain ⟨i, hi, i1, i2⟩ := kvN_get ok.1.symm ok.2 h1
    refine ⟨⟨fun _ => ⟨i, hi, by omega, by omega⟩, by omega, by omega⟩, ?_⟩
    unfold wv
    rw [if_neg (pu.pn _ h1).ne, hi, h2]
    exact ⟨by show 4 ≤ i + 0; omega, by show i + 0 ≤ 59; omega⟩
theorem no_p_made_from : ∀ vs H Q E, ¬ sp_p_made_from K 0 vs H Q E := fun vs H Q E h => by
  obtain ⟨_, _, _, _, _, _, _, _, _, _, _, _, h, _⟩ := h
  omega
def rmd (y : Yard) (n : Nat) (path : Str) (kvs : List (Key × V)) (r : Y.Row) : List (Str × Str × List Int) := match r with
  | .use x q ws _ => match fnd y q with
    | some p => mds y n (path ++ x ++ Str.ofString ".") p (ws.map (wv kvs))
    | none => []
  | _ => []
theorem mds_succ (y : Yard) (n : Nat) (path : Str) (pt : Y.Part) (ms : List Int) : mds y (n + 1) path pt ms = (path, pt.name, ms) :: pt.rows.flatMap (rmd y n path (kvN pt.params ms)) := rfl
theorem z_dzip {σ : L2.St} {H : Hp} {Q : VK} {ta : TA} (q : ta σ H fun vs H1 => ∃ (b c : Bool) (l m : Addr) (ks : List Str) (ys : List V), vs = [.ref l, .ref m] ∧ SqS b K H1 l (ks.map V.str) ∧ SqS c K H1 m ys ∧ ∀ p, H1 p = none → Q (.ref p) (upd H1 p (.dK (mergeK [] ((ks.zip ys).map fun x => (Sum.inr x.1, x.2)))))) : tDictZip K ta σ H Q := q
theorem vr_p_made_from (n : Nat) (vs H Q E) (h : sp_p_made_from K (n + 1) vs H Q E) : (rd_p_made_from K (sp_p_made_from K n)) { nx := fun _ H' => Q .non H', rt := Q } (start ["parts", "path", "name", "numbers", "_", "params", "rows", "by_param", "made", "row", "use", "used", "widths", "inner"] vs) H := by
  obtain ⟨dp, tn, path, y, us, kvs, k, pt, ms, rfl, Y_, ⟨gdp, bn, pts⟩, ⟨hk, hkn, hk3⟩, op, gtn, mok, q⟩ := h
  unfold rd_p_made_from
  have PP := Y_.pu pt (List.mem_of_getElem? hk)
  obtain ⟨v0, hv0⟩ : ∃ v, us[k]? = some v := ⟨_, List.getElem?_eq_getElem (by rw [pts.1]; exact (List.getElem?_eq_some_iff.mp hk).1)⟩
  have gv := bn k v0 pt (List.getElem?_eq_some_iff.mp hv0).1 hv0 hk
  obtain ⟨bu, pa_, ra, o, rs, rfl, hbu, hpa, od, hra, trs⟩ := pts.2 k v0 pt hv0 hk
  walk_at "zz"
  refine ⟨dp, _, rfl, dgK gdp gv, ?_⟩
  walk_at "zz"
  refine z_g3 (st_of hbu) ?_
  walk_at "zz"
  refine z_dzip ?_
  walk_at "zz"
  refine ⟨true, true, pa_, tn, pt.params, ms.map V.int, rfl, fst_of hpa, st_of gtn, fun bp hbp => ?_⟩
  have e1 := Ex.new (o := .dK (kvN pt.params ms)) hbp
  have gbp : upd H bp (.dK (kvN pt.params ms)) bp = some (.dK (kvN pt.params ms)) := upd_same
  show gName 7 (V.ref bp) _ (upd H bp (.dK (kvN pt.params ms))) _
  generalize upd H bp (.dK (kvN pt.params ms)) = H1 at e1 gbp ⊢
  walk_at "zz"
  refine ⟨szl (by simp), fun t0 ht0 => ?_⟩
  have e2 := Ex.new (o := .tup [.str path, .str pt.name, .ref tn]) ht0
  have tu0 : Tu (upd H1 t0 (.tup [.str path, .str pt.name, .ref tn])) (.ref t0) (mdD (path, pt.name, ms)) := Tu.mk ht0 (.cons (.str _) (.cons (.str _) (.cons (.tup (e1 _ _ gtn) (.ints ms)) .nil)))
  generalize upd H1 t0 _ = H2 at e2 tu0 ⊢
  walk_at "zz"
  refine ⟨szl (by simp), fun M hM => ?_⟩
  have e3 := Ex.new (o := .lst [.ref t0]) hM
  have gM : upd H2 M (.lst [.ref t0]) M = some (.lst [.ref t0]) := upd_same
  have gbp3 := e3 _ _ (e2 _ _ gbp)
  have tu3_ := tu0.ex e3
  have eA := (e1.trans e2).trans e3
  have M0 := ex_none (e1.trans e2) hM
  have nM : bp ≠ M := some_ne (e2 _ _ gbp) hM
  generalize upd H2 M _ = H3 at e3 gM gbp3 tu3_ eA ⊢
  have sl : (4000000 : Nat) < sizeLine := by decide
  have X0 : 0 < 31 ^ k := Nat.pow_pos (by decide)
  have X1 : 31 ^ (k + 1) = 31 ^ k * 31 := Nat.pow_succ 31 k
  have X4 : 31 ^ (k + 1) ≤ 31 ^ 4 := Nat.pow_le_pow_right (by decide) (by omega)
  have X5 : (31 : Nat) ^ 4 = 923521 := by decide
  have lrs := trs.len
  rw [List.length_map] at lrs
  have lr := PP.rl
  have trs3 := trs.ex eA
  have hra3 := eA _ _ hra
  walk_at "zz"
  refine z_FT (st_of hra3) (fun j σ' H' => ∃ (y4 y9 y10 y11 y12 y13 : Option V) (ls : List V), σ' = [some (.ref dp), some (.str path), some (.str pt.name), some (.ref tn), y4, some (.ref pa_), some (.ref ra), some (.ref bp), some (.ref M), y9, y10, y11, y12, y13] ∧ H' M = some (.lst ls) ∧ TuAll H' ls (((path, pt.name, ms) :: (pt.rows.take j).flatMap (rmd y n path (kvN pt.params ms))).map mdD) ∧ ls.length ≤ 1 + j * 31 ^ k ∧ But [M] H3 H') ⟨_, _, _, _, _, _, _, rfl, gM, .cons tu3_ .nil, by simp, But.refl⟩ (fun j σ' H' hj h => ?_) (fun j x σ' H' hj hx h => ?_) (fun σ' H' h => ?_)
  · obtain ⟨_, _, _, _, _, _, _, _, _, _, _, b⟩ := h
    exact st_of (b _ _ (by simp [some_ne hra M0]) hra3)
  · obtain ⟨y4, y9, y10, y11, y12, y13, ls, rfl, gj, tj, lj, bj⟩ := h
    have lM : ∀ x ∈ [M], ∃ xs, H3 x = some (.lst xs) := fun x hx => by
      rw [List.mem_singleton.mp hx]
      exact ⟨_, gM⟩
    have tkj : Tk H3 H' := .but bj lM
    have eHj : Ex H H' := ((But.ex eA (B := [M])).trans bj).exOf fun p hp => by rw [List.mem_singleton.mp hp]; exact M0
    obtain ⟨dd_, hdd, tdd⟩ := trs3.get hx
    rw [List.getElem?_map] at hdd
    obtain ⟨r, hr, rfl⟩ := Option.map_eq_some_iff.mp hdd
    have tr := tdd.mono tkj
    have sX : (j + 1) * 31 ^ k = j * 31 ^ k + 31 ^ k := Nat.succ_mul j _
    by_cases hu : ∃ x q ws ts, r = .use x q ws ts
    · obtain ⟨nx_, q_, ws, ts, rfl⟩ := hu
      obtain ⟨nmx, _⟩ := use_ahead Y_ hk (List.mem_of_getElem? hr)
      obtain ⟨i', p', hi', hp', rfl, lws, okws, lts⟩ := use_more Y_ hk (List.mem_of_getElem? hr)
      have PP' := Y_.pu p' (List.mem_of_getElem? hp')
      have pl' := PP'.pl
      obtain ⟨b, x0, x1, x2, x3, x4, rfl, hb, z0, z1, z2, z3, z4⟩ := tu5 tr
      cases tu_str z0
      cases tu_str z1
      cases tu_str z2
      obtain ⟨bw, xw, rfl, hbw, txw⟩ := tu_tup z3
      walk_at "zz"
      refine z_ixT (st_of hb) (show atI _ ((0 : Nat) : Int) = _ from atI_nat rfl) ?_
      walk_at "zz"
      try (rw [show decide (V.str (Str.ofString "use") = V.str (Str.ofString "use")) = true from decide_eq_true rfl]; refine ite_t ?_; walk_at "zz")
      refine z_g5 (st_of hb) ?_
      walk_at "zz"
      refine ⟨bw, bp, ws, xw, kvN pt.params ms, rfl, hbw, txw, bj _ _ (by simp [nM]) gbp3, fun w hw => (wv_ok mok PP (okws w hw)).1, by omega, fun l4 H4 fl4 e4 g4 => ?_⟩
      walk_at "zz"
      refine z_tyl (sq_of (e4 _ _ gj)) ?_
      walk_at "zz"
      have o0 : okT path 63 := op.mono (by omega)
      have o1 := o0.app nmx.ok
      refine z_addS (by rw [← txt_app_len]; exact o1.sz (by decide)) ?_
      walk_at "zz"
      refine z_addS (by rw [← txt_app_len]; exact (o1.app (okT.of "." (n := 1) (by decide +kernel))).sz (by decide)) ?_
      walk_at "zz"
      have mX : 31 ^ (i' + 1) ≤ 31 ^ k := Nat.pow_le_pow_right (by decide) hi'
      have jX : j * 31 ^ k ≤ 29 * 31 ^ k := Nat.mul_le_mul_right _ (by omega)
      have eH4 := eHj.trans e4
      refine ⟨dp, l4, path ++ nx_ ++ Str.ofString ".", y, us, kvs, i', p', ws.map (wv (kvN pt.params ms)), rfl, Y_, ⟨eH4 _ _ gdp, bn, pts.bu (B := []) (But.ex eH4) (fun _ h => by cases h)⟩, ⟨hp', by omega, by omega⟩, ((op.app nmx.ok).app (okT.of "." (n := 1) (by decide +kernel))).mono (by omega), g4, ⟨by rw [List.length_map, lws], fun m hm => ?_⟩, fun r5 H5 ls5 fr5 g5 t5 l5 e5 => ?_⟩
      · obtain ⟨w, hw, rfl⟩ := List.mem_map.mp hm
        exact (wv_ok mok PP (okws w hw)).2
      have e45 := e4.trans e5
      have gj5 := e45 _ _ gj
      have k6 : Tk H5 (upd H5 M (.lst (ls ++ ls5))) := .putL gj5
      refine ⟨M, r5, ls, ls5, rfl, rfl, gj5, g5, by omega, _, _, _, _, _, _, ls ++ ls5, rfl, upd_same, ?_, by rw [List.length_append]; omega, (bj.trans (But.ex e45)).trans (But.put (by simp))⟩
      have : [Y.Row.use nx_ p'.name ws ts].flatMap (rmd y n path (kvN pt.params ms)) = mds y n (path ++ nx_ ++ Str.ofString ".") p' (ws.map (wv (kvN pt.params ms))) := by
        rw [List.flatMap_cons, List.flatMap_nil, List.append_nil]
        show (match fnd y p'.name with
          | some p => mds y n (path ++ nx_ ++ Str.ofString ".") p (ws.map (wv (kvN pt.params ms)))
          | none => []) = _
        rw [fnd_at Y_ hp']
      rw [take_snoc hr, List.flatMap_append, this, ← List.cons_append, List.map_append]
      exact ((tj.ex e45).mono k6).app (t5.mono k6)
    · have hf : decide (V.str (rk r) = V.str (Str.ofString "use")) = false := by
        rw [rk_use]
        cases r with
        | use => exact absurd ⟨_, _, _, _, rfl⟩ hu
        | _ => rfl
      have hw : rmd y n path (kvN pt.params ms) r = [] := by
        cases r with
        | use => exact absurd ⟨_, _, _, _, rfl⟩ hu
        | _ => rfl
      obtain ⟨b, rest, rfl, hb, _⟩ := tu_row tr
      walk_at "zz"
      refine z_ixT (st_of hb) (show atI _ ((0 : Nat) : Int) = _ from atI_nat rfl) ?_
      walk_at "zz"
      rw [hf]
      refine ite_f ?_
      walk_at "zz"
      refine ⟨_, _, _, _, _, _, ls, rfl, gj, ?_, by omega, bj⟩
      rw [take_snoc hr, List.flatMap_append, List.flatMap_cons, hw, List.flatMap_nil, List.append_nil, List.append_nil]
      exact tj
  obtain ⟨y4, y9, y10, y11, y12, y13, ls, rfl, gj, tj, lj, bj⟩ := h
  rw [lrs] at tj lj
  rw [List.take_length] at tj
  walk_at "zz"
  have lX : pt.rows.length * 31 ^ k ≤ 30 * 31 ^ k := Nat.mul_le_mul_right _ lr
  exact q M H' ls M0 gj tj (by omega) (((But.ex eA (B := [M])).trans bj).exOf fun p hp => by rw [List.mem_singleton.mp hp]; exact M0)
theorem vr_made_parts (vs H Q E) (h : sp_made_parts K vs H Q E) : (rd_made_parts K) { nx := fun _ H' => Q .non H', rt := Q } (start ["yard", "main"] vs) H := by
  obtain ⟨ty, y, us, k, pt, rfl, Y_, gty, pts, ⟨hk, hl⟩, q⟩ := h
  unfold rd_made_parts
  have ly := Y_.ne.2
  obtain ⟨v0, hv0⟩ : ∃ v, us[k]? = some v := ⟨_, List.getElem?_eq_getElem (by rw [pts.1]; omega)⟩
  have lu := pts.1
  obtain ⟨bu, pa_, ra, o, rs, rfl, hbu, hpa, od, hra, trs⟩ := pts.2 k v0 pt hv0 hk
  walk_at "zz"
  refine z_ixT (st_of gty) (show atI us (-1) = some (V.ref bu) by
    have h1 := take_snoc hv0
    rw [hl, ← lu, List.take_length] at h1
    rw [h1]
    exact atI_last _ _) ?_
  walk_at "zz"
  refine ⟨ty, y, us, rfl, Y_, gty, pts, fun d H1 kvs fr e1 gd bn => ?_⟩
  walk_at "zz"
  refine z_ixT (st_of (e1 _ _ hbu)) (show atI _ ((0 : Nat) : Int) = _ from atI_nat rfl) ?_
  walk_at "zz"
  refine ⟨szl (by simp), fun t0 ht0 => ?_⟩
  have e2 := Ex.new (o := .tup []) ht0
  have e12 := e1.trans e2
  walk_at "zz"
  refine ⟨d, t0, Str.ofString "", y, us, kvs, k, pt, [], rfl, Y_, ⟨e2 _ _ gd, bn, pts.bu (B := []) (But.ex e12) (fun _ h => by cases h)⟩, ⟨hk, by omega, by omega⟩, (okT.of "" (n := 0) (by decide +kernel)).mono (by omega), upd_same, ⟨by rw [Y_.main k pt hk hl] <;> rfl, fun m hm => by cases hm⟩, fun r H' ls fr5 g5 t5 l5 e5 => ?_⟩
  walk_at "zz"
  refine ⟨_, _, rfl, .inl ⟨sq_of g5, fun l hl => ?_⟩⟩
  have e125 := e12.trans e5
  exact q l _ ls (ex_none e125 hl) (e125.trans (Ex.new hl)) upd_same (t5.ex (Ex.new hl)) l5
theorem kvN_none {ms : List Int} {z : Str} {ps : List Str} (h : z ∉ ps) : valV (kvN ps ms) (Sum.inr z) = none := by
  have gen : ∀ (ps : List Str) (xs : List V) (acc : List (Key × V)), z ∉ ps → valV acc (Sum.inr z) = none → valV (mergeK acc ((ps.zip xs).map fun x => ((Sum.inr x.1 : Key), x.2))) (Sum.inr z) = none := by
    intro ps
    induction ps with
    | nil => intro xs acc _ h; exact h
    | cons p ps ih =>
      intro xs acc hn h
      cases xs with
      | nil => exact h
      | cons x xs =>
        refine ih xs (putK acc (Sum.inr p) x) (fun hm => hn (List.mem_cons_of_mem _ hm)) ?_
        rw [valV_put, if_neg (fun e => hn (by injection e with e; rw [e]; exact List.mem_cons_self ..))]
        exact h
  exact gen ps _ [] h rfl
theorem wv_law {pt : Y.Part} {ms : List Int} (ok : msOk pt ms) (pu : PU pt) {w : Wd} (h : useW pt.params w) : ∃ o : Option V, valV (kvN pt.params ms) (Sum.inr w.1) = o ∧ ∃ i : Int, o.getD (.int 0) = .int i ∧ -1000 ≤ i ∧ i ≤ 1000 ∧ -1000 ≤ w.2 ∧ w.2 ≤ 1000 ∧ w.2 + i = wv (kvN pt.params ms) w := by
  rcases h with ⟨h1, h2, h3⟩ | ⟨h1, h2⟩
  · refine ⟨none, kvN_none (fun hm => (pu.pn _ hm).ne h1), 0, rfl, by decide, by decide, by omega, by omega, ?_⟩
    unfold wv
    rw [if_pos h1]
    omega
  · obtain ⟨i, hi, i1, i2⟩ := kvN_get ok.1.symm ok.2 h1
    refine ⟨_, hi, i, rfl, by omega, by omega, by omega, by omega, ?_⟩
    unfold wv
    rw [if_neg (pu.pn _ h1).ne, hi]
    show w.2 + i = i + w.2
    omega
theorem no_L_numbers : ∀ vs H Q E, ¬ sp_L_numbers K 0 vs H Q E := fun vs H Q E h => by
  obtain ⟨_, _, _, _, _, _, _, _, _, _, _, _, _, _, _, h, _⟩ := h
  omega
theorem vr_L_numbers (n : Nat) (vs H Q E) (h : sp_L_numbers K (n + 1) vs H Q E) : (rd_L_numbers K (sp_L_numbers K n)) { nx := fun _ H' => Q .non H', rt := Q } (start ["_law_yard_here", "_law_part_here", "_law_path", "_law_numbers_here", "_law_found", "_law_known", "_law_row", "_law_used_here", "_law_told", "_law_one", "_law_width_here"] vs) H := by
  obtain ⟨ty, tn, fl, vp, path, y, us, fs, k, pt, ms, es, rfl, Y_, ⟨gty, pts⟩, ⟨hk, hkn, hk3⟩, pa, op, gtn, mok, ⟨gfl, w2, lfs⟩, q⟩ := h
  unfold rd_L_numbers
  have PP := Y_.pu pt (List.mem_of_getElem? hk)
  obtain ⟨bu, pa_, ra, o, rs, rfl, hbu, hpa, od, hra, trs⟩ := id pa
  have lrs := trs.len
  rw [List.length_map] at lrs
  have lr := PP.rl
  refine z_seq (z_asg (z_dzip ?_))
  walk_at "zz"
  refine z_ixT (st_of hbu) (show atI _ ((1 : Nat) : Int) = _ from atI_nat rfl) ?_
  walk_at "zz"
  refine ⟨true, true, pa_, tn, pt.params, ms.map V.int, rfl, fst_of hpa, st_of gtn, fun bp hbp => ?_⟩
  have e1 := Ex.new (o := .dK (kvN pt.params ms)) hbp
  have gbp : upd H bp (.dK (kvN pt.params ms)) bp = some (.dK (kvN pt.params ms)) := upd_same
  show gName 5 (V.ref bp) _ (upd H bp (.dK (kvN pt.params ms))) _
  generalize upd H bp (.dK (kvN pt.params ms)) = H1 at e1 gbp ⊢
  have nbf : bp ≠ fl := (some_ne gfl hbp).symm
  walk_at "zz"
  refine z_tyl (sq_of (e1 _ _ gfl)) ?_
  walk_at "zz"
  refine z_ixT (st_of (e1 _ _ hbu)) (show atI _ ((0 : Nat) : Int) = _ from atI_nat rfl) ?_
  walk_at "zz"
  refine ⟨szl (by simp), fun t0 ht0 => ?_⟩
  have e2 := Ex.new (o := .tup [.str path, .str pt.name, .ref tn]) ht0
  have tu0 : Tu (upd H1 t0 (.tup [.str path, .str pt.name, .ref tn])) (.ref t0) (mdD (path, pt.name, ms)) := Tu.mk ht0 (.cons (.str _) (.cons (.str _) (.cons (.tup (e1 _ _ gtn) (.ints ms)) .nil)))
  have e12 := e1.trans e2
  have gbp2 := e2 _ _ gbp
  generalize upd H1 t0 _ = H2 at e2 tu0 e12 gbp2 ⊢
  walk_at "zz"
  have sl : (4000000 : Nat) < sizeLine := by decide
  have X0 : 0 < 31 ^ k := Nat.pow_pos (by decide)
  have X1 : 31 ^ (k + 1) = 31 ^ k * 31 := Nat.pow_succ 31 k
  refine z_rapp (e12 _ _ gfl) (by omega) ?_
  have b3 : But [fl] H2 (upd H2 fl (.lst (fs ++ [.ref t0]))) := But.put (by simp)
  have k3 : Tk H2 (upd H2 fl (.lst (fs ++ [.ref t0]))) := .putL (e12 _ _ gfl)
  have gfl1 : upd H2 fl (.lst (fs ++ [.ref t0])) fl = some (.lst (fs ++ [.ref t0])) := upd_same
  have w21 : TuAll (upd H2 fl (.lst (fs ++ [.ref t0]))) (fs ++ [.ref t0]) ((es ++ [(path, pt.name, ms)]).map mdD) := by
    rw [List.map_append]
    exact ((w2.ex e12).mono k3).app (.cons (tu0.mono k3) .nil)
  have bb1 : But [fl] H (upd H2 fl (.lst (fs ++ [.ref t0]))) := (But.ex e12).trans b3
  have lf0 : ∀ x ∈ [fl], ∃ xs, H x = some (.lst xs) := fun x hx => by
    rw [List.mem_singleton.mp hx]
    exact ⟨_, gfl⟩
  have gty1 := bb1 _ _ (by simp [show ty ≠ fl from fun z => by rw [z, gfl] at gty; cases gty]) gty
  have pts1 := pts.bu bb1 lf0
  have gbp1 := b3 _ _ (by simp [nbf]) gbp2
  have tk01 : Tk H (upd H2 fl (.lst (fs ++ [.ref t0]))) := .but bb1 lf0
  have hbu1 := tk01 _ _ hbu
  have hra1 := tk01 _ _ hra
  have trs1 := trs.mono tk01
  generalize upd H2 fl _ = H3 at gfl1 w21 gty1 pts1 bb1 gbp1 tk01 hbu1 hra1 trs1 ⊢
  walk_at "zz"
  refine z_ixT (st_of hbu1) (show atI _ ((2 : Nat) : Int) = _ from atI_nat rfl) ?_
  walk_at "zz"
  refine z_FT (st_of hra1) (fun j σ' H' => ∃ (y6 y7 y8 : Option V) (fs' : List V), σ' = [some (.ref ty), some (.ref bu), some (.str path), some (.ref tn), some (.ref fl), some (.ref bp), y6, y7, y8, none, none] ∧ H' fl = some (.lst fs') ∧ TuAll H' fs' ((es ++ [(path, pt.name, ms)] ++ (pt.rows.take j).flatMap (rmd y n path (kvN pt.params ms))).map mdD) ∧ fs'.length ≤ fs.length + 1 + j * 31 ^ k ∧ But [fl] H3 H') ⟨_, _, _, _, rfl, gfl1, by rw [List.take_zero, List.flatMap_nil, List.append_nil]; exact w21, by simp, But.refl⟩ (fun j σ' H' hj h => ?_) (fun j x σ' H' hj hx h => ?_) (fun σ' H' h => ?_)
  · obtain ⟨_, _, _, _, _, _, _, _, b⟩ := h
    exact st_of (b _ _ (by simp [show ra ≠ fl from fun z => by rw [z, gfl1] at hra1; cases hra1]) hra1)
  · obtain ⟨y6, y7, y8, fs', rfl, gj, wj, lj, bj⟩ := h
    have lf1 : ∀ x ∈ [fl], ∃ xs, H3 x = some (.lst xs) := fun x hx => by
      rw [List.mem_singleton.mp hx]
      exact ⟨_, gfl1⟩
    have tkj : Tk H3 H' := .but bj lf1
    have ptsj := pts1.bu bj lf1
    have gtyj := tkj _ _ gty1
    obtain ⟨dd_, hdd, tdd⟩ := trs1.get hx
    rw [List.getElem?_map] at hdd
    obtain ⟨r, hr, rfl⟩ := Option.map_eq_some_iff.mp hdd
    have tr := tdd.mono tkj
    have sX : (j + 1) * 31 ^ k = j * 31 ^ k + 31 ^ k := Nat.succ_mul j _
    by_cases hu : ∃ x q ws ts, r = .use x q ws ts
    · obtain ⟨nx_, q_, ws, ts, rfl⟩ := hu
      obtain ⟨nmx, i', p', hi', hp', rfl⟩ := use_ahead Y_ hk (List.mem_of_getElem? hr)
      obtain ⟨b, x0, x1, x2, x3, x4, rfl, hb, z0, z1, z2, z3, z4⟩ := tu5 tr
      cases tu_str z0
      cases tu_str z1
      cases tu_str z2
      obtain ⟨v', hv'⟩ : ∃ v, us[i']? = some v := ⟨_, List.getElem?_eq_getElem (by rw [pts.1]; exact (List.getElem?_eq_some_iff.mp hp').1)⟩
      have li' : i' < y.length := (List.getElem?_eq_some_iff.mp hp').1
      walk_at "zz"
      refine z_ixT (st_of hb) (show atI _ ((0 : Nat) : Int) = _ from atI_nat rfl) ?_
      walk_at "zz"
      try (rw [show decide (V.str (Str.ofString "use") = V.str (Str.ofString "use")) = true from decide_eq_true rfl]; refine ite_t ?_; walk_at "zz")
      refine z_CTg (st_of gtyj) (fun D m H2 => Ex H' H2 ∧ H2 D = some (.lst (if i' < m then [v'] else []))) (fun D hD => ⟨Ex.new hD, upd_same⟩) (fun D m H2 hD p => st_of (p.1 _ _ gtyj)) (fun D m x H2 hD hm hxm p => ?_) (fun D H2 hD p => ?_)
      · obtain ⟨e, g⟩ := p
        obtain ⟨pm, hpm⟩ : ∃ pm, y[m]? = some pm := ⟨_, List.getElem?_eq_getElem (by rw [← pts.1]; exact hm)⟩
        obtain ⟨bm, pam, ram, om, rsm, rfl, hbm, _⟩ := (ptsj.2 m x pm hxm hpm).ex e
        refine z_gname ⟨rfl, ?_⟩
        walk_at "zz"
        refine z_ixT (st_of hbm) (show atI _ ((0 : Nat) : Int) = _ from atI_nat rfl) ?_
        walk_at "zz"
        refine z_ixT (st_of (e _ _ hb)) (show atI _ ((2 : Nat) : Int) = _ from atI_nat rfl) ?_
        walk_at "zz"
        by_cases hmi : m = i'
        · subst hmi
          rw [hp'] at hpm
          cases hpm
          rw [hv'] at hxm
          cases hxm
          rw [decide_eq_true rfl]
          refine ite_t ?_
          walk_at "zz"
          refine ⟨_, g, by rw [if_neg (by omega)]; exact Nat.lt_trans (by decide : 0 < 4000000) sl, e.mut hD, ?_⟩
          rw [upd_same, if_neg (by omega), if_pos (by omega)] <;> rfl
        · rw [decide_eq_false (fun z => hmi (name_inj Y_ hpm hp' (by injection z)))]
          refine ite_f ⟨e, ?_⟩
          by_cases hlt : i' < m
          · rw [if_pos (by omega)]
            rw [if_pos hlt] at g
            exact g
          · rw [if_neg (by omega)]
            rw [if_neg hlt] at g
            exact g
      obtain ⟨e, g⟩ := p
      rw [pts.1, if_pos li'] at g
      walk_at "zz"
      refine z_ixL (sq_of g) (show atI _ ((0 : Nat) : Int) = _ from atI_nat rfl) ?_
      walk_at "zz"
      obtain ⟨i2, p2, hi2, hp2, hpn, lws, okws, _⟩ := use_more Y_ hk (List.mem_of_getElem? hr)
      have : i2 = i' := name_inj Y_ hp2 hp' hpn
      subst this
      rw [hp'] at hp2
      cases hp2
      have PP' := Y_.pu p' (List.mem_of_getElem? hp')
      have pl' := PP'.pl
      obtain ⟨bw, xw, rfl, hbw, txw⟩ := tu_tup z3
      have lxw := txw.len
      rw [List.length_map] at lxw
      have gbj := bj _ _ (by simp [nbf]) gbp1
      refine z_ixT (st_of (e _ _ hb)) (show atI _ ((3 : Nat) : Int) = _ from atI_nat rfl) ?_
      walk_at "zz"
      refine z_CTg (st_of (e _ _ hbw)) (fun D2 m H4 => Ex H2 H4 ∧ H4 D2 = some (.lst (((ws.take m).map (wv (kvN pt.params ms))).map V.int))) (fun D2 hD2 => ⟨Ex.new hD2, upd_same⟩) (fun D2 m H4 hD2 p => st_of (p.1 _ _ (e _ _ hbw))) (fun D2 m x H4 hD2 hm hxm p => ?_) (fun D2 H4 hD2 p => ?_)
      · obtain ⟨e4, g4⟩ := p
        obtain ⟨dw, hdw, tdw⟩ := txw.get hxm
        rw [List.getElem?_map] at hdw
        obtain ⟨w, hw, rfl⟩ := Option.map_eq_some_iff.mp hdw
        obtain ⟨o_, ho, ii, hii, i1, i2_, i3, i4, i5⟩ := wv_law mok PP (okws w (List.mem_of_getElem? hw))
        obtain ⟨b7, x7, y7_, rfl, hb7, tx7, ty7⟩ := tu2 (tdw.ex (e.trans e4))
        cases tu_str tx7
        cases tu_int ty7
        refine z_gname ⟨rfl, ?_⟩
        walk_at "zz"
        refine z_ixT (st_of hb7) (show atI _ ((1 : Nat) : Int) = _ from atI_nat rfl) ?_
        walk_at "zz"
        refine ⟨bp, rfl, .inl ⟨_, .inl ((e.trans e4) _ _ gbj)⟩, ?_⟩
        walk_at "zz"
        refine z_ixT (st_of hb7) (show atI _ ((0 : Nat) : Int) = _ from atI_nat rfl) ?_
        walk_at "zz"
        refine ⟨o_, by rw [← ho]; exact DGet.k (k := Sum.inr w.1) ((e.trans e4) _ _ gbj), ?_⟩
        rw [hii]
        walk_at "zz"
        rw [i5]
        have lt : ((ws.take m).map (wv (kvN pt.params ms))).length ≤ 10 := by rw [List.length_map, List.length_take]; omega
        refine ⟨_, g4, szlt (by rw [List.length_map]; omega), e4.mut hD2, ?_⟩
        rw [upd_same, take_snoc hw, List.map_append, List.map_append] <;> rfl
      obtain ⟨e4, g4⟩ := p
      rw [lxw, List.take_length] at g4
      have e24 := e.trans e4
      walk_at "zz"
      have o0 : okT path 63 := op.mono (by omega)
      have o1 := o0.app nmx.ok
      refine z_ixT (st_of (e24 _ _ hb)) (show atI _ ((1 : Nat) : Int) = _ from atI_nat rfl) ?_
      refine z_addS (by rw [← txt_app_len]; exact o1.sz (by decide)) ?_
      walk_at "zz"
      refine z_addS (by rw [← txt_app_len]; exact (o1.app (okT.of "." (n := 1) (by decide +kernel))).sz (by decide)) ?_
      walk_at "zz"
      refine ⟨_, _, rfl, .inl ⟨sq_of g4, fun l5 hl5 => ?_⟩⟩
      have e5 := Ex.new (o := .tup ((ws.map (wv (kvN pt.params ms))).map V.int)) hl5
      have g5 : upd H4 l5 (.tup ((ws.map (wv (kvN pt.params ms))).map V.int)) l5 = some (.tup ((ws.map (wv (kvN pt.params ms))).map V.int)) := upd_same
      generalize upd H4 l5 _ = H5 at e5 g5 ⊢
      have e25 := e24.trans e5
      walk_at "zz"
      have mX : 31 ^ (i2 + 1) ≤ 31 ^ k := Nat.pow_le_pow_right (by decide) hi2
      have jX : j * 31 ^ k ≤ 29 * 31 ^ k := Nat.mul_le_mul_right _ (by omega)
      refine ⟨ty, l5, fl, v', path ++ nx_ ++ Str.ofString ".", y, us, fs', i2, p', ws.map (wv (kvN pt.params ms)), _, rfl, Y_, ⟨e25 _ _ gtyj, ptsj.bu (B := []) (But.ex e25) (fun _ h => by cases h)⟩, ⟨hp', by omega, by omega⟩, (ptsj.2 i2 v' p' hv' hp').ex e25, ((op.app nmx.ok).app (okT.of "." (n := 1) (by decide +kernel))).mono (by omega), g5, ⟨by rw [List.length_map, lws], fun m hm => ?_⟩, ⟨e25 _ _ gj, wj.ex e25, by omega⟩, fun H6 fs6 g6 w6 l6 b6 => ?_⟩
      · obtain ⟨w, hw, rfl⟩ := List.mem_map.mp hm
        exact (wv_ok mok PP (okws w hw)).2
      refine ⟨_, _, _, fs6, rfl, g6, ?_, by omega, (bj.trans (But.ex e25)).trans b6⟩
      rw [take_snoc hr, List.flatMap_append, ← List.append_assoc]
      have : [Y.Row.use nx_ p'.name ws ts].flatMap (rmd y n path (kvN pt.params ms)) = mds y n (path ++ nx_ ++ Str.ofString ".") p' (ws.map (wv (kvN pt.params ms))) := by
        rw [List.flatMap_cons, List.flatMap_nil, List.append_nil]
        show (match fnd y p'.name with
          | some p => mds y n (path ++ nx_ ++ Str.ofString ".") p (ws.map (wv (kvN pt.params ms)))
          | none => []) = _
        rw [fnd_at Y_ hp']
      rw [this]
      exact w6
    · have hf : decide (V.str (rk r) = V.str (Str.ofString "use")) = false := by
        rw [rk_use]
        cases r with
        | use => exact absurd ⟨_, _, _, _, rfl⟩ hu
        | _ => rfl
      have hw : rmd y n path (kvN pt.params ms) r = [] := by
        cases r with
        | use => exact absurd ⟨_, _, _, _, rfl⟩ hu
        | _ => rfl
      obtain ⟨b, rest, rfl, hb, _⟩ := tu_row tr
      walk_at "zz"
      refine z_ixT (st_of hb) (show atI _ ((0 : Nat) : Int) = _ from atI_nat rfl) ?_
      walk_at "zz"
      rw [hf]
      refine ite_f ?_
      walk_at "zz"
      refine ⟨_, _, _, fs', rfl, gj, ?_, by omega, bj⟩
      rw [take_snoc hr, List.flatMap_append, List.flatMap_cons, hw, List.flatMap_nil, List.append_nil, List.append_nil]
      exact wj
  obtain ⟨y6, y7, y8, fs', rfl, gj, wj, lj, bj⟩ := h
  rw [lrs] at wj lj
  rw [List.take_length] at wj
  walk_at "zz"
  have lX : pt.rows.length * 31 ^ k ≤ 30 * 31 ^ k := Nat.mul_le_mul_right _ lr
  refine q H' fs' gj ?_ (by omega) (bb1.trans bj)
  rw [mds_succ]
  rw [List.append_assoc] at wj
  exact wj
end
section
variable {K : PySem.W.Frag} {w : World}
theorem foldW_snoc (g : Web) (ps : Web) (n : Str) (zs : List Str) : foldW g (ps ++ [(n, zs)]) = putW (foldW g ps) n zs := by
  unfold foldW
  rw [List.foldl_append] <;> rfl
theorem foldW_app (g : Web) (ps qs : Web) : foldW g (ps ++ qs) = foldW (foldW g ps) qs := by
  unfold foldW
  rw [List.foldl_append]
theorem webF_any {H0 H : Hp} {n : Str} : ∀ {kvs : List (Key × V)} {g : Web}, WebF H0 H kvs g → (kvs.any fun kv => decide (kv.1 = Sum.inr n)) = g.any fun p => decide (p.1 = n)
  | _, _, .nil => rfl
  | kv :: kvs, p :: g, .cons e r => by
    rw [List.any_cons, List.any_cons, webF_any r, e.1]
    by_cases z : p.1 = n
    · simp [z]
    · have : ¬ (Sum.inr p.1 : Key) = Sum.inr n := fun y => z (Sum.inr.inj y)
      simp [z]
theorem webF_map {H0 H : Hp} {n : Str} {l : Addr} {zs : List Str} (h0 : H0 l = none) (hl : H l = some (.lst (zs.map V.str))) : ∀ {kvs : List (Key × V)} {g : Web}, WebF H0 H kvs g → WebF H0 H (kvs.map fun kv => if kv.1 = Sum.inr n then (kv.1, .ref l) else kv) (g.map fun p => if p.1 = n then (p.1, zs) else p)
  | _, _, .nil => .nil
  | kv :: kvs, p :: g, .cons e r => by
    rw [List.map_cons, List.map_cons]
    refine .cons ?_ (webF_map h0 hl r)
    by_cases z : p.1 = n
    · have : kv.1 = Sum.inr n := by rw [e.1, z]
      rw [if_pos this, if_pos z]
      exact ⟨e.1, l, rfl, h0, hl⟩
    · have : ¬ kv.1 = Sum.inr n := fun y => z (Sum.inr.inj (e.1.symm.trans y))
      rw [if_neg this, if_neg z]
      exact e
theorem webF_put {H0 H : Hp} {n : Str} {l : Addr} {zs : List Str} {kvs : List (Key × V)} {g : Web} (w : WebF H0 H kvs g) (h0 : H0 l = none) (hl : H l = some (.lst (zs.map V.str))) : WebF H0 H (putK kvs (Sum.inr n) (.ref l)) (putW g n zs) := by
  unfold putK putW
  rw [webF_any w]
  by_cases z : (g.any fun p => decide (p.1 = n)) = true
  · rw [if_pos z, if_pos z]
    exact webF_map h0 hl w
  · rw [if_neg z, if_neg z]
    exact Paired.snoc w ⟨rfl, l, rfl, h0, hl⟩
theorem WebF.bu {H0 H H' : Hp} {d : Addr} {o : HO} {kvs : List (Key × V)} {g : Web} (w : WebF H0 H kvs g) (b : But [d] H H') (hd : H d = some o) (no : ∀ xs, o ≠ .lst xs) : WebF H0 H' kvs g :=
  Paired.mono (fun _ _ ⟨z, l, y, h0, x⟩ => ⟨z, l, y, h0, b _ _ (fun hm => by
    rw [List.mem_singleton.mp hm, hd] at x
    exact no _ (Option.some.inj x)) x⟩) w
theorem WebF.ex {H0 H H' : Hp} {kvs : List (Key × V)} {g : Web} (w : WebF H0 H kvs g) (e : Ex H H') : WebF H0 H' kvs g :=
  Paired.mono (fun _ _ ⟨z, l, y, h0, x⟩ => ⟨z, l, y, h0, e _ _ x⟩) w
theorem WebF.kv {H0 H : Hp} {kvs : List (Key × V)} {g : Web} (w : WebF H0 H kvs g) : WebKV K H kvs g :=
  Paired.mono (fun _ _ ⟨z, l, y, _, x⟩ => ⟨z, l, y, sq_of x⟩) w
theorem rows_ok {y : Yard} (Y_ : YardOk y) {i : Nat} {p : Y.Part} (hi : y[i]? = some p) : RowsOk p := by
  obtain ⟨zs, hds, hr, sts, m, _⟩ := Y_.md i p hi
  exact ⟨Y_.pu p (List.mem_of_getElem? hi), m.rows fun q hq => Y_.pu q (List.mem_of_mem_take hq)⟩
theorem wlk_ok {y : Yard} (Y_ : YardOk y) : ∀ (n k : Nat) (path : Str) (pt : Y.Part), y[k]? = some pt → k ≤ 3 → okT path (21 * (3 - k)) → ∀ e ∈ wlk y n path pt, (∃ j : Nat, y[j]? = some e.2) ∧ okT e.1 63
  | 0, _, _, _, _, _, _, _, h => by cases h
  | n + 1, k, path, pt, hk, k3, op, e, h => by
    rw [wlk_succ] at h
    rcases List.mem_cons.mp h with rfl | h
    · exact ⟨⟨k, hk⟩, op.mono (by omega)⟩
    obtain ⟨r, hr, he⟩ := List.mem_flatMap.mp h
    cases r with
    | use x q ws ts =>
      obtain ⟨nmx, i, p, hi, hp, rfl⟩ := use_ahead Y_ hk hr
      have he : e ∈ (match fnd y p.name with
        | some p => wlk y n (path ++ x ++ Str.ofString ".") p
        | none => []) := he
      rw [fnd_at Y_ hp] at he
      exact wlk_ok Y_ n i _ p hp (by omega) (((op.app nmx.ok).app (okT.of "." (n := 1) (by decide +kernel))).mono (by omega)) e he
    | _ => cases he
theorem rowA_use {y : Yard} (Y_ : YardOk y) {i : Nat} {p : Y.Part} (hi : y[i]? = some p) (path x : Str) (ws : List Wd) (ts : List Trm) : rowA y path (.use x p.name ws ts) = ((insOf p).zip ts).map fun (e : Str × Trm) => (path ++ x ++ Str.ofString "." ++ e.1, askL path e.2) := by
  show (match fnd y p.name with
    | some p => ((insOf p).zip ts).map fun (e : Str × Trm) => (path ++ x ++ Str.ofString "." ++ e.1, askL path e.2)
    | none => []) = _
  rw [fnd_at Y_ hi]
theorem ins_filter : ∀ rows : List Y.Row, ((rows.filter fun r => decide (rk r = Str.ofString "in")).map rx) = ((drs rows).filter fun e => e.1).map fun e => e.2.1
  | [] => rfl
  | r :: rows => by
    have ih := ins_filter rows
    cases r with
    | inn x w =>
      rw [List.filter_cons_of_pos (by exact decide_eq_true rfl), List.map_cons, ih] <;> rfl
    | out x w =>
      rw [List.filter_cons_of_neg (by show ¬ decide (Str.ofString "out" = Str.ofString "in") = true; decide +kernel), ih] <;> rfl
    | wire x w =>
      rw [List.filter_cons_of_neg (by show ¬ decide (Str.ofString "wire" = Str.ofString "in") = true; decide +kernel), ih] <;> rfl
    | rest x w n t =>
      rw [List.filter_cons_of_neg (by show ¬ decide (Str.ofString "rest" = Str.ofString "in") = true; decide +kernel), ih] <;> rfl
    | let_ x t =>
      rw [List.filter_cons_of_neg (by show ¬ decide (Str.ofString "let" = Str.ofString "in") = true; decide +kernel), ih] <;> rfl
    | use x q ws ts =>
      rw [List.filter_cons_of_neg (by show ¬ decide (Str.ofString "use" = Str.ofString "in") = true; decide +kernel), ih] <;> rfl
    | tab x w ns =>
      rw [List.filter_cons_of_neg (by show ¬ decide (Str.ofString "table" = Str.ofString "in") = true; decide +kernel), ih] <;> rfl
    | mem x w n a b c =>
      rw [List.filter_cons_of_neg (by show ¬ decide (Str.ofString "memory" = Str.ofString "in") = true; decide +kernel), ih] <;> rfl
theorem zip_take {α β : Type} {as : List α} {bs : List β} {j : Nat} {a : α} {b : β} (ha : as[j]? = some a) (hb : bs[j]? = some b) : (as.zip bs).take (j + 1) = (as.zip bs).take j ++ [(a, b)] :=
  take_snoc (by rw [List.getElem?_zip_eq_some]; exact ⟨ha, hb⟩)
theorem let_use : decide (V.str (Str.ofString "let") = V.str (Str.ofString "use")) = false := kw_dec (a := Str.ofString "let") (by decide +kernel)
theorem use_let : decide (V.str (Str.ofString "use") = V.str (Str.ofString "let")) = false := kw_dec (a := Str.ofString "use") (by decide +kernel)
theorem rk_let (r : Y.Row) : decide (V.str (rk r) = V.str (Str.ofString "let")) = (match r with | .let_ .. => true | _ => false) := by
  cases r
  · exact kw_dec (a := Str.ofString "in") (by decide +kernel)
  · exact kw_dec (a := Str.ofString "out") (by decide +kernel)
  · exact kw_dec (a := Str.ofString "wire") (by decide +kernel)
  · exact kw_dec (a := Str.ofString "rest") (by decide +kernel)
  · exact decide_eq_true rfl
  · exact kw_dec (a := Str.ofString "use") (by decide +kernel)
  · exact kw_dec (a := Str.ofString "table") (by decide +kernel)
  · exact kw_dec (a := Str.ofString "memory") (by decide +kernel)
/-- what has been put, by the walk -/
def putsW (y : Yard) (es : List (Str × Y.Part)) : Web := es.flatMap fun e => e.2.rows.flatMap (rowA y e.1)
theorem putsW_snoc (y : Yard) (es : List (Str × Y.Part)) (e : Str × Y.Part) : putsW y (es ++ [e]) = putsW y es ++ e.2.rows.flatMap (rowA y e.1) := by
  unfold putsW
  rw [List.flatMap_append, List.flatMap_cons, List.flatMap_nil, List.append_nil]
theorem w2_get {H : Hp} : ∀ {vs : List V} {es : List (Str × Y.Part)} {i : Nat} {v : V}, W2 H vs es → vs[i]? = some v → ∃ e, es[i]? = some e ∧ WAt H v e
  | [], [], _, _, _, h => by simp at h
  | _ :: _, [], _, _, h, _ => h.elim
  | [], _ :: _, _, _, h, _ => h.elim
  | v :: vs, e :: es, 0, _, h, hx => by
    cases hx
    exact ⟨e, rfl, h.1⟩
  | v :: vs, e :: es, i + 1, _, h, hx => w2_get (i := i) h.2 hx
theorem w2_len {H : Hp} : ∀ {vs : List V} {es : List (Str × Y.Part)}, W2 H vs es → vs.length = es.length
  | [], [], _ => rfl
  | _ :: _, [], h => h.elim
  | [], _ :: _, h => h.elim
  | v :: vs, e :: es, h => by rw [List.length_cons, List.length_cons, w2_len h.2]
theorem last_at {y : Yard} {us : List V} {k : Nat} {v0 : V} (lu : us.length = y.length) (hl : k + 1 = y.length) (hv : us[k]? = some v0) : atI us ((us.length : Int) - 1) = some v0 := by
  rw [show (us.length : Int) - 1 = ((k : Nat) : Int) by omega]
  exact atI_nat hv
theorem some_ne2 {H : Hp} {x y : Addr} {vs : List V} {kvs : List (Key × V)} (h : H x = some (.tup vs)) (n : H y = some (.dK kvs)) : x ≠ y := fun z => by
  rw [z, n] at h
  cases h
theorem tk_d {H H' : Hp} {d : Addr} {kvs : List (Key × V)} (b : But [d] H H') (hd : H d = some (.dK kvs)) : Tk H H' := fun a vs e => b a _ (fun hm => by
  rw [List.mem_singleton.mp hm, hd] at e
  cases e) e
theorem PartAt.bd {H H' : Hp} {v : V} {pt : Y.Part} {d : Addr} {kvs : List (Key × V)} (h : PartAt H v pt) (b : But [d] H H') (hd : H d = some (.dK kvs)) : PartAt H' v pt := by
  obtain ⟨a, pa, ra, o, rs, rfl, h1, h2, h3, h4, h5⟩ := h
  exact ⟨a, pa, ra, o, rs, rfl, tk_d b hd _ _ h1, b _ _ (fun hm => by
    rw [List.mem_singleton.mp hm, hd] at h2
    cases h2) h2, h3, tk_d b hd _ _ h4, h5.mono (tk_d b hd)⟩
theorem WAt.bd {H H' : Hp} {v : V} {e : Str × Y.Part} {d : Addr} {kvs : List (Key × V)} (h : WAt H v e) (b : But [d] H H') (hd : H d = some (.dK kvs)) : WAt H' v e := by
  obtain ⟨a, vp, rfl, h1, h2⟩ := h
  exact ⟨a, vp, rfl, tk_d b hd _ _ h1, h2.bd b hd⟩
def isUse : Y.Row → Bool
  | .use .. => true
  | _ => false
theorem flat_len {α β : Type} {f : α → List β} {p : α → Bool} {m : Nat} : ∀ {l : List α}, (∀ a ∈ l, (f a).length ≤ if p a = true then m else 0) → (l.flatMap f).length ≤ l.countP p * m
  | [], _ => Nat.zero_le _
  | a :: l, h => by
    have ih := flat_len (l := l) fun x hx => h x (List.mem_cons_of_mem _ hx)
    have h1 := h a (List.mem_cons_self ..)
    rw [List.flatMap_cons, List.length_append]
    by_cases z : p a = true
    · rw [if_pos z] at h1
      rw [List.countP_cons_of_pos z, Nat.succ_mul]
      omega
    · rw [if_neg z] at h1
      rw [List.countP_cons_of_neg z]
      omega
theorem st_uses : ∀ sts : List St, (sts.flatMap St.rows).countP isUse = (sts.filter St.isU).length
  | [] => rfl
  | s :: sts => by
    rw [List.flatMap_cons, List.countP_append, st_uses sts]
    cases s with
    | lt b x w t =>
      rw [List.filter_cons_of_neg (by exact Bool.false_ne_true)]
      have : (St.lt b x w t).rows.countP isUse = 0 := by cases b <;> rfl
      omega
    | us x pt ws ts =>
      rw [List.filter_cons_of_pos (by exact rfl), List.length_cons]
      have : (St.us x pt ws ts).rows.countP isUse = 1 := rfl
      omega
theorem uses2 {y : Yard} (Y_ : YardOk y) {i : Nat} {p : Y.Part} (hi : y[i]? = some p) : p.rows.countP isUse ≤ 2 := by
  obtain ⟨zs, hds, hr, sts, m, _⟩ := Y_.md i p hi
  rw [m.perm.countP_eq, List.countP_append, st_uses]
  have : hr.countP isUse = 0 := List.countP_eq_zero.mpr fun r h => by
    obtain ⟨hd, _, c⟩ := m.hcp _ h
    cases c <;> exact Bool.false_ne_true
  have := m.uc
  omega
theorem wlk_len {y : Yard} (Y_ : YardOk y) : ∀ (n k : Nat) (path : Str) (pt : Y.Part), y[k]? = some pt → (wlk y n path pt).length + 1 ≤ 2 ^ (k + 1)
  | 0, k, _, _, _ => by
    have : 0 < 2 ^ (k + 1) := Nat.pow_pos (by decide)
    show 0 + 1 ≤ _
    omega
  | n + 1, k, path, pt, hk => by
    rw [wlk_succ, List.length_cons]
    have u2 := uses2 Y_ hk
    have fl := flat_len (f := rwk y n path) (p := isUse) (m := 2 ^ k - 1) (l := pt.rows) fun r hr => by
      cases r with
      | use x q ws ts =>
        obtain ⟨nmx, i, p, hi, hp, rfl⟩ := use_ahead Y_ hk hr
        rw [show isUse (Y.Row.use x p.name ws ts) = true from rfl, if_pos rfl]
        show (match fnd y p.name with
          | some p => wlk y n (path ++ x ++ Str.ofString ".") p
          | none => []).length ≤ _
        rw [fnd_at Y_ hp]
        have ih := wlk_len Y_ n i (path ++ x ++ Str.ofString ".") p hp
        have : 2 ^ (i + 1) ≤ 2 ^ k := Nat.pow_le_pow_right (by decide) hi
        show (wlk y n (path ++ x ++ Str.ofString ".") p).length ≤ _
        omega
      | _ => exact Nat.zero_le _
    have h1 : pt.rows.countP isUse * (2 ^ k - 1) ≤ 2 * (2 ^ k - 1) := Nat.mul_le_mul_right _ u2
    have h2 : 0 < 2 ^ k := Nat.pow_pos (by decide)
    have h3 : 2 ^ (k + 1) = 2 * 2 ^ k := by rw [Nat.pow_succ, Nat.mul_comm]
    omega
theorem vr_L_asks (vs H Q E) (h : sp_L_asks K vs H Q E) : (rd_L_asks K) { nx := fun _ H' => Q .non H', rt := Q } (start ["_law_yard_here", "_law_due", "_law_path", "_law_part_here", "_law_row", "_law_used_here", "_law_doors", "_law_door", "_law_term_here", "_law_one"] vs) H := by
  obtain ⟨ty, y, us, k, pt, rfl, Y_, gty, pts, ⟨hk, hl⟩, q⟩ := h
  unfold rd_L_asks
  have ly := Y_.ne.2
  have sl : (4000000 : Nat) < sizeLine := by decide
  obtain ⟨v0, hv0⟩ : ∃ v, us[k]? = some v := ⟨_, List.getElem?_eq_getElem (by rw [pts.1]; omega)⟩
  have lu := pts.1
  walk_at "zz"
  refine z_dnew fun d hd => ?_
  have e1 := Ex.new (o := .dK []) hd
  have gd : upd H d (.dK []) d = some (.dK []) := upd_same
  generalize upd H d (.dK []) = H1 at e1 gd ⊢
  walk_at "zz"
  refine z_lenT (st_of (e1 _ _ gty)) ?_
  walk_at "zz"
  refine z_ixT (st_of (e1 _ _ gty)) (last_at lu hl hv0) ?_
  walk_at "zz"
  refine ⟨szl (by simp), fun fl hfl => ?_⟩
  have e2 := Ex.new (o := .lst []) hfl
  have gfl : upd H1 fl (.lst []) fl = some (.lst []) := upd_same
  have ndf : d ≠ fl := some_ne gd hfl
  have e12 := e1.trans e2
  have gd2 := e2 _ _ gd
  have fl0 := ex_none e1 hfl
  generalize upd H1 fl (.lst []) = H2 at e2 gfl e12 gd2 ⊢
  walk_at "zz"
  have pts2 := pts.bu (B := []) (But.ex e12) (fun _ h => by cases h)
  have X4 : 31 ^ (k + 1) ≤ 31 ^ 4 := Nat.pow_le_pow_right (by decide) (by omega)
  have X5 : (31 : Nat) ^ 4 = 923521 := by decide
  refine ⟨ty, fl, v0, Str.ofString "", y, us, [], k, pt, [], rfl, Y_, ⟨e12 _ _ gty, pts2⟩, ⟨hk, by omega, by omega⟩, pts2.2 k v0 pt hv0 hk, (okT.of "" (n := 0) (by decide +kernel)).mono (by omega), ⟨gfl, trivial, by simp only [List.length_nil]; omega⟩, fun H3 fs g3 w3 l3 b3 => ?_⟩
  have e13 : Ex H1 H3 := ((But.ex e2 (B := [fl])).trans b3).exOf fun p hp => by rw [List.mem_singleton.mp hp]; exact hfl
  have eH3 := e1.trans e13
  have gd3 := e13 _ _ gd
  have nfd : fl ≠ d := ndf.symm
  have pts3 := pts.bu (B := []) (But.ex eH3) (fun _ h => by cases h)
  have gty3 := eH3 _ _ gty
  have w3 : W2 H3 fs (wlk y 6 (Str.ofString "") pt) := w3
  have okW := wlk_ok Y_ 6 k (Str.ofString "") pt hk (by omega) ((okT.of "" (n := 0) (by decide +kernel)).mono (by omega))
  have lW := wlk_len Y_ 6 k (Str.ofString "") pt hk
  have p2 : 2 ^ (k + 1) ≤ 2 ^ 4 := Nat.pow_le_pow_right (by decide) (by omega)
  have p16 : (2 : Nat) ^ 4 = 16 := by decide
  have lfs := w2_len w3
  unfold asksL at q
  generalize wlk y 6 (Str.ofString "") pt = W at w3 okW lW lfs q
  clear e2 gfl gd2 X4 X5 l3 b3 e12
  refine z_FL (sq_of g3) (fun i σ' H' => ∃ (y2 y3 y4 y5 y6 y7 y8 : Option V) (kvs : List (Key × V)), σ' = [some (.ref ty), some (.ref d), y2, y3, y4, y5, y6, y7, y8, none] ∧ H' d = some (.dK kvs) ∧ WebF H H' kvs (foldW [] (putsW y (W.take i))) ∧ kvs.length ≤ i * 210 ∧ But [d] H3 H') ⟨_, _, _, _, _, _, _, [], rfl, gd3, .nil, by simp, But.refl⟩ (fun i σ' H' hi h => ?_) (fun i x σ' H' hi hx h => ?_) (fun σ' H' h => ?_)
  · obtain ⟨_, _, _, _, _, _, _, _, _, _, _, _, b⟩ := h
    exact sq_of (b _ _ (by simp [nfd]) g3)
  · obtain ⟨y2, y3, y4, y5, y6, y7, y8, kvs, rfl, gi, wi, li, bi⟩ := h
    obtain ⟨⟨path, p⟩, he, wa⟩ := w2_get w3 hx
    obtain ⟨⟨jp, hjp⟩, op⟩ := okW _ (List.mem_of_getElem? he)
    obtain ⟨b, vp, rfl, hb, pa⟩ := wa.bd bi gd3
    have hjp : y[jp]? = some p := hjp
    have op : okT path 63 := op
    have pa : PartAt H' vp p := pa
    have RO := rows_ok Y_ hjp
    have PP := RO.pu
    obtain ⟨bu, pa_, ra, o, rs, rfl, hbu, hpa, od, hra, trs⟩ := id pa
    have lrs := trs.len
    rw [List.length_map] at lrs
    have lr := PP.rl
    refine z_g2 (st_of hb) ?_
    walk_at "zz"
    refine z_ixT (st_of hbu) (show atI _ ((2 : Nat) : Int) = _ from atI_nat rfl) ?_
    walk_at "zz"
    refine z_FT (st_of hra) (fun j σ' H5 => ∃ (y4 y5 y6 y7 y8 : Option V) (kvs : List (Key × V)), σ' = [some (.ref ty), some (.ref d), some (.str path), some (.ref bu), y4, y5, y6, y7, y8, none] ∧ H5 d = some (.dK kvs) ∧ WebF H H5 kvs (foldW [] (putsW y (W.take i) ++ (p.rows.take j).flatMap (rowA y path))) ∧ kvs.length ≤ i * 210 + j * 7 ∧ But [d] H' H5) ⟨_, _, _, _, _, kvs, rfl, gi, by rw [List.take_zero, List.flatMap_nil, List.append_nil]; exact wi, by omega, But.refl⟩ (fun j σ' H5 hj h => ?_) (fun j x σ' H5 hj hx h => ?_) (fun σ' H5 h => ?_)
    · obtain ⟨_, _, _, _, _, _, _, _, _, _, b5⟩ := h
      exact st_of (b5 _ _ (by simp [some_ne2 hra gi]) hra)
    · obtain ⟨z4, z5, z6, z7, z8, kv, rfl, gj, wj, lj, bj⟩ := h
      clear y4 y5 y6 y7 y8 wi li
      have tkj := tk_d bj gi
      obtain ⟨dd_, hdd, tdd⟩ := trs.get hx
      rw [List.getElem?_map] at hdd
      obtain ⟨r, hr, rfl⟩ := Option.map_eq_some_iff.mp hdd
      have tr := tdd.mono tkj
      have okr := RO.ok r (List.mem_of_getElem? hr)
      have b35 := bi.trans bj
      have ehj : Ex H H5 := ((But.ex eH3 (B := [d])).trans b35).exOf fun p hp => by rw [List.mem_singleton.mp hp]; exact hd
      have done : ∀ (σ2 : _root_.L2.St) (z4 z5 z6 z7 z8 : Option V) (H6 : Hp) (kv6 : List (Key × V)), σ2 = [some (.ref ty), some (.ref d), some (.str path), some (.ref bu), z4, z5, z6, z7, z8, none] → H6 d = some (.dK kv6) → WebF H H6 kv6 (foldW [] ((putsW y (W.take i) ++ (p.rows.take j).flatMap (rowA y path)) ++ rowA y path r)) → kv6.length ≤ kv.length + 7 → But [d] H5 H6 → ∃ (y4 y5 y6 y7 y8 : Option V) (kvs : List (Key × V)), σ2 = [some (.ref ty), some (.ref d), some (.str path), some (.ref bu), y4, y5, y6, y7, y8, none] ∧ H6 d = some (.dK kvs) ∧ WebF H H6 kvs (foldW [] (putsW y (W.take i) ++ (p.rows.take (j + 1)).flatMap (rowA y path))) ∧ kvs.length ≤ i * 210 + (j + 1) * 7 ∧ But [d] H' H6 := fun σ2 z4 z5 z6 z7 z8 H6 kv6 es g6 w6 l6 b6 => by
        refine ⟨z4, z5, z6, z7, z8, kv6, es, g6, ?_, by omega, bj.trans b6⟩
        rw [take_snoc hr, List.flatMap_append, ← List.append_assoc, show [r].flatMap (rowA y path) = rowA y path r by rw [List.flatMap_cons, List.flatMap_nil, List.append_nil]]
        exact w6
      cases r with
      | let_ x t =>
        obtain ⟨bb, x0, x1, x2, rfl, hbb, z0, z1, zt⟩ := tu3 tr
        cases tu_str z0
        cases tu_str z1
        walk_at "zz"
        refine z_ixT (st_of hbb) (show atI _ ((0 : Nat) : Int) = _ from atI_nat rfl) ?_
        walk_at "zz"
        try (rw [show decide (V.str (Str.ofString "let") = V.str (Str.ofString "let")) = true from decide_eq_true rfl]; refine ite_t ?_; walk_at "zz")
        refine z_ixT (st_of hbb) (show atI _ ((2 : Nat) : Int) = _ from atI_nat rfl) ?_
        walk_at "zz"
        refine ⟨x2, t, path, p.params, rfl, zt, ⟨okr.2.1, by have := okr.2.2; omega, PP.pn⟩, op.mono (by omega), fun l H6 hl6 e6 g6 => ?_⟩
        walk_at "zz"
        refine z_ixT (st_of (e6 _ _ hbb)) (show atI _ ((1 : Nat) : Int) = _ from atI_nat rfl) ?_
        walk_at "zz"
        refine z_addS (by rw [← txt_app_len]; exact (op.app okr.1.ok).sz (by decide)) ?_
        have lk := length_putK kv (Sum.inr (path ++ x)) (.ref l)
        refine ⟨d, _, rfl, DPut.k (k := Sum.inr (path ++ x)) (e6 _ _ gj) (by omega), ?_⟩
        have nld : l ≠ d := (some_ne gj hl6).symm
        have hbb7 : upd H6 d (.dK (putK kv (Sum.inr (path ++ x)) (.ref l))) bb = _ := (upd_ne (some_ne2 hbb gj)).trans (e6 _ _ hbb)
        have w7 : WebF H (upd H6 d (.dK (putK kv (Sum.inr (path ++ x)) (.ref l)))) (putK kv (Sum.inr (path ++ x)) (.ref l)) (foldW [] ((putsW y (W.take i) ++ (p.rows.take j).flatMap (rowA y path)) ++ [(path ++ x, askL path t)])) := by
          rw [foldW_snoc]
          exact webF_put ((wj.ex e6).bu (But.put (List.mem_singleton.mpr rfl)) (e6 _ _ gj) (fun _ z => by cases z)) (ex_none ehj hl6) (by rw [upd_ne nld]; exact g6)
        have b7 : But [d] H5 (upd H6 d (.dK (putK kv (Sum.inr (path ++ x)) (.ref l)))) := (But.ex e6).trans (But.put (List.mem_singleton.mpr rfl))
        have g7 : upd H6 d (.dK (putK kv (Sum.inr (path ++ x)) (.ref l))) d = some (.dK (putK kv (Sum.inr (path ++ x)) (.ref l))) := upd_same
        generalize upd H6 d _ = H7 at hbb7 w7 b7 g7 ⊢
        walk_at "zz"
        refine z_ixT (st_of hbb7) (show atI _ ((0 : Nat) : Int) = _ from atI_nat rfl) ?_
        walk_at "zz"
        try (rw [let_use]; refine ite_f ?_; walk_at "zz")
        exact done _ _ _ _ _ _ H7 _ rfl g7 w7 (by omega) b7
      | use x q_ ws ts =>
        obtain ⟨nmx, i', p', hi', hp', rfl⟩ := use_ahead Y_ hjp (List.mem_of_getElem? hr)
        obtain ⟨bb, x0, x1, x2, x3, x4, rfl, hbb, z0, z1, z2, z3, zt⟩ := tu5 tr
        cases tu_str z0
        cases tu_str z1
        cases tu_str z2
        obtain ⟨v', hv'⟩ : ∃ v, us[i']? = some v := ⟨_, List.getElem?_eq_getElem (by rw [pts.1]; exact (List.getElem?_eq_some_iff.mp hp').1)⟩
        have li' : i' < y.length := (List.getElem?_eq_some_iff.mp hp').1
        have gty5 := ehj _ _ gty
        have pts5 := pts.bu (B := []) (But.ex ehj) (fun _ h => by cases h)
        walk_at "zz"
        refine z_ixT (st_of hbb) (show atI _ ((0 : Nat) : Int) = _ from atI_nat rfl) ?_
        walk_at "zz"
        try (rw [use_let]; refine ite_f ?_; walk_at "zz")
        refine z_ixT (st_of hbb) (show atI _ ((0 : Nat) : Int) = _ from atI_nat rfl) ?_
        walk_at "zz"
        try (rw [show decide (V.str (Str.ofString "use") = V.str (Str.ofString "use")) = true from decide_eq_true rfl]; refine ite_t ?_; walk_at "zz")
        refine z_CTg (st_of gty5) (fun D m H2 => Ex H5 H2 ∧ H2 D = some (.lst (if i' < m then [v'] else []))) (fun D hD => ⟨Ex.new hD, upd_same⟩) (fun D m H2 hD p => st_of (p.1 _ _ gty5)) (fun D m x H2 hD hm hxm p => ?_) (fun D H2 hD p => ?_)
        · obtain ⟨e, g⟩ := p
          obtain ⟨pm, hpm⟩ : ∃ pm, y[m]? = some pm := ⟨_, List.getElem?_eq_getElem (by rw [← pts.1]; exact hm)⟩
          obtain ⟨bm, pam, ram, om, rsm, rfl, hbm, _⟩ := (pts5.2 m x pm hxm hpm).ex e
          refine z_gname ⟨rfl, ?_⟩
          walk_at "zz"
          refine z_ixT (st_of hbm) (show atI _ ((0 : Nat) : Int) = _ from atI_nat rfl) ?_
          walk_at "zz"
          refine z_ixT (st_of (e _ _ hbb)) (show atI _ ((2 : Nat) : Int) = _ from atI_nat rfl) ?_
          walk_at "zz"
          by_cases hmi : m = i'
          · subst hmi
            rw [hp'] at hpm
            cases hpm
            rw [hv'] at hxm
            cases hxm
            rw [decide_eq_true rfl]
            refine ite_t ?_
            walk_at "zz"
            refine ⟨_, g, by rw [if_neg (by omega)]; exact Nat.lt_trans (by decide : 0 < 4000000) sl, e.mut hD, ?_⟩
            rw [upd_same, if_neg (by omega), if_pos (by omega)] <;> rfl
          · rw [decide_eq_false (fun z => hmi (name_inj Y_ hpm hp' (by injection z)))]
            refine ite_f ⟨e, ?_⟩
            by_cases hlt : i' < m
            · rw [if_pos (by omega)]
              rw [if_pos hlt] at g
              exact g
            · rw [if_neg (by omega)]
              rw [if_neg hlt] at g
              exact g
        obtain ⟨e6, g6⟩ := p
        rw [pts.1, if_pos li'] at g6
        walk_at "zz"
        refine z_ixL (sq_of g6) (show atI _ ((0 : Nat) : Int) = _ from atI_nat rfl) ?_
        walk_at "zz"
        have pa' := (pts5.2 i' v' p' hv' hp').ex e6
        obtain ⟨bu', pa2, ra', o', rs', rfl, hbu', hpa', od', hra', trs'⟩ := pa'
        have lrs' := trs'.len
        rw [List.length_map] at lrs'
        have PP' := Y_.pu p' (List.mem_of_getElem? hp')
        have lr' := PP'.rl
        refine z_ixT (st_of hbu') (show atI _ ((2 : Nat) : Int) = _ from atI_nat rfl) ?_
        walk_at "zz"
        refine z_CTg (st_of hra') (fun D m H7 => Ex H2 H7 ∧ H7 D = some (.lst ((((p'.rows.take m).filter fun r => decide (rk r = Str.ofString "in")).map rx).map V.str))) (fun D hD => ⟨Ex.new hD, upd_same⟩) (fun D m H7 hD p => st_of (p.1 _ _ hra')) (fun D m x H7 hD hm hxm p => ?_) (fun D2 H7 hD p => ?_)
        · obtain ⟨e, g⟩ := p
          obtain ⟨dd_, hdd, tdd⟩ := trs'.get hxm
          rw [List.getElem?_map] at hdd
          obtain ⟨r, hr, rfl⟩ := Option.map_eq_some_iff.mp hdd
          obtain ⟨b, rest, rfl, hb, _⟩ := tu_row (tdd.ex e)
          have lf : ((p'.rows.take m).filter fun r => decide (rk r = Str.ofString "in")).length ≤ 30 := by
            have h1 := List.length_filter_le (fun r => decide (rk r = Str.ofString "in")) (p'.rows.take m)
            rw [List.length_take] at h1
            omega
          refine z_gname ⟨rfl, ?_⟩
          walk_at "zz"
          refine z_ixT (st_of hb) (show atI _ ((0 : Nat) : Int) = _ from atI_nat rfl) ?_
          walk_at "zz"
          have snoc := take_snoc hr
          by_cases hz : rk r = Str.ofString "in"
          · rw [decide_eq_true (by rw [hz])]
            refine ite_t ?_
            walk_at "zz"
            refine z_ixT (st_of hb) (show atI _ ((1 : Nat) : Int) = _ from atI_nat rfl) ?_
            refine ⟨_, g, szlt (by rw [List.length_map, List.length_map]; omega), e.mut hD, ?_⟩
            rw [upd_same, snoc, List.filter_append, List.map_append, List.map_append]
            simp [hz]
          · rw [decide_eq_false (fun h => hz (by injection h))]
            refine ite_f ⟨e, ?_⟩
            rw [snoc, List.filter_append, List.map_append, List.map_append]
            simp [hz, g]
        obtain ⟨e7, g7⟩ := p
        rw [lrs', List.take_length, ins_filter] at g7
        have g7 : H7 D2 = some (.lst ((insOf p').map V.str)) := g7
        obtain ⟨_, p2_, _, hp2_, hpn_, _, _, lts⟩ := use_more Y_ hjp (List.mem_of_getElem? hr)
        have : p2_ = p' := by
          have := name_inj Y_ hp2_ hp' hpn_
          rw [this, hp'] at hp2_
          exact (Option.some.inj hp2_).symm
        subst this
        obtain ⟨bt, xt, rfl, hbt, txt⟩ := tu_tup zt
        have lxt := txt.len
        rw [List.length_map] at lxt
        have di := PP'.di
        have e57 := e6.trans e7
        have gj7 := e57 _ _ gj
        have hbb7 := e57 _ _ hbb
        have w7 := wj.ex e57
        have txt7 := txt.ex e57
        have hbt7 := e57 _ _ hbt
        have hb57 : But [d] H5 H7 := But.ex e57
        have n2d : D2 ≠ d := (some_ne (e6 _ _ gj) hD).symm
        have eH7 := ehj.trans e57
        walk_at "zz"
        refine z_ixT (st_of hbb7) (show atI _ ((4 : Nat) : Int) = _ from atI_nat rfl) ?_
        walk_at "zz"
        have ra_ := rowA_use Y_ hp' path x ws ts
        refine z_FZw (b := false) (c := true) (n := ts.length) (by rw [List.length_map]; omega) (sqs_l (sq_of g7)) (sqs_t (st_of hbt7)) (fun m σ' H8 => ∃ (y7 y8 : Option V) (kv8 : List (Key × V)), σ' = [some (.ref ty), some (.ref d), some (.str path), some (.ref bu), some (.ref bb), some (.ref bu'), some (.ref D2), y7, y8, none] ∧ H8 d = some (.dK kv8) ∧ WebF H H8 kv8 (foldW [] ((putsW y (W.take i) ++ (p.rows.take j).flatMap (rowA y path)) ++ (((insOf p2_).zip ts).take m).map fun (e : Str × Trm) => (path ++ x ++ Str.ofString "." ++ e.1, askL path e.2))) ∧ kv8.length ≤ kv.length + m ∧ But [d] H7 H8) ⟨_, _, kv, rfl, gj7, by rw [List.take_zero, List.map_nil, List.append_nil]; exact w7, by omega, But.refl⟩ (fun m σ' H8 hm h => ?_) (fun m xd xt_ tp σ' H8 H9 hm hxd hxt h e9 htp hH9 => ?_) (fun σ' H8 h => ?_)
        · obtain ⟨_, _, _, _, _, _, _, b8⟩ := h
          exact ⟨sqs_l (sq_of (b8 _ _ (by simp [n2d]) g7)), sqs_t (st_of (b8 _ _ (by simp [some_ne2 hbt7 gj7]) hbt7))⟩
        · obtain ⟨y7, y8, kv8, rfl, g8, w8, l8, b8⟩ := h
          rw [List.getElem?_map] at hxd
          obtain ⟨dn, hdn, rfl⟩ := Option.map_eq_some_iff.mp hxd
          obtain ⟨dt, hdt, tdt⟩ := txt7.get hxt
          rw [List.getElem?_map] at hdt
          obtain ⟨t, ht, rfl⟩ := Option.map_eq_some_iff.mp hdt
          have okt := okr.2.2.2 t (List.mem_of_getElem? ht)
          have nmd : nmS dn := by
            obtain ⟨e_, he_, rfl⟩ := List.mem_map.mp (List.mem_of_getElem? hdn)
            exact (PP'.dr e_ (List.mem_filter.mp he_).1).1
          have tk8 := tk_d b8 gj7
          have tpv : H9 tp = some (.tup [.str dn, xt_]) := by rw [hH9]; exact upd_same
          refine z_g2 (st_of tpv) ?_
          walk_at "zz"
          refine ⟨xt_, t, path, p.params, rfl, (tdt.mono tk8).ex e9, ⟨okt.1, by have := okt.2; omega, PP.pn⟩, op.mono (by omega), fun l HA hlA eA gA => ?_⟩
          have e8A := e9.trans eA
          have hbbA := e8A _ _ (tk8 _ _ hbb7)
          walk_at "zz"
          refine z_ixT (st_of hbbA) (show atI _ ((1 : Nat) : Int) = _ from atI_nat rfl) ?_
          walk_at "zz"
          have o1 := op.app okr.1.ok
          have o2 := o1.app (okT.of "." (n := 1) (by decide +kernel))
          refine z_addS (by rw [← txt_app_len]; exact o1.sz (by decide)) ?_
          walk_at "zz"
          refine z_addS (by rw [← txt_app_len]; exact o2.sz (by decide)) ?_
          walk_at "zz"
          refine z_addS (by rw [← txt_app_len]; exact (o2.app nmd.ok).sz (by decide)) ?_
          generalize hn : path ++ x ++ Str.ofString "." ++ dn = nm_ at *
          have lk := length_putK kv8 (Sum.inr nm_) (.ref l)
          refine ⟨d, _, rfl, DPut.k (k := Sum.inr nm_) (e8A _ _ g8) (by omega), ?_⟩
          have nld : l ≠ d := (some_ne (e9 _ _ g8) hlA).symm
          refine ⟨_, _, _, rfl, upd_same, ?_, by omega, (b8.trans (But.ex e8A)).trans (But.put (List.mem_singleton.mpr rfl))⟩
          rw [zip_take hdn ht, List.map_append, ← List.append_assoc, List.map_cons, List.map_nil, hn, foldW_snoc]
          have eHA : Ex H H9 := ((((But.ex eH7 (B := [d])).trans b8)).trans (But.ex e9)).exOf fun p hp => by rw [List.mem_singleton.mp hp]; exact hd
          exact webF_put ((w8.ex e8A).bu (But.put (List.mem_singleton.mpr rfl)) (e8A _ _ g8) (fun _ z => by cases z)) (ex_none eHA hlA) (by rw [upd_ne nld]; exact gA)
        obtain ⟨y7, y8, kv8, rfl, g8, w8, l8, b8⟩ := h
        refine done _ _ _ _ _ _ H8 kv8 rfl g8 ?_ (by omega) (hb57.trans b8)
        rw [List.take_of_length_le (l := (insOf p2_).zip ts) (by rw [List.length_zip]; omega)] at w8
        rw [ra_]
        exact w8
      | _ =>
        obtain ⟨bb, rest, rfl, hbb, _⟩ := tu_row tr
        walk_at "zz"
        refine z_ixT (st_of hbb) (show atI _ ((0 : Nat) : Int) = _ from atI_nat rfl) ?_
        walk_at "zz"
        try (rw [rk_let]; refine ite_f ?_; walk_at "zz")
        refine z_ixT (st_of hbb) (show atI _ ((0 : Nat) : Int) = _ from atI_nat rfl) ?_
        walk_at "zz"
        try (rw [rk_use]; refine ite_f ?_; walk_at "zz")
        exact done _ _ _ _ _ _ H5 kv rfl gj (by rw [show rowA y path _ = [] from rfl, List.append_nil]; exact wj) (by omega) But.refl
    obtain ⟨z4, z5, z6, z7, z8, kv, rfl, gj, wj, lj, bj⟩ := h
    rw [lrs, List.take_length] at wj
    rw [lrs] at lj
    refine ⟨_, _, _, _, _, _, _, kv, rfl, gj, ?_, by omega, bi.trans bj⟩
    rw [take_snoc he, putsW_snoc]
    exact wj
  obtain ⟨y2, y3, y4, y5, y6, y7, y8, kvs, rfl, gi, wi, li, bi⟩ := h
  rw [lfs, List.take_length] at wi
  walk_at "zz"
  exact q d H' kvs hd (((But.ex eH3 (B := [d])).trans bi).exOf fun p hp => by rw [List.mem_singleton.mp hp]; exact hd) gi wi
theorem mds_wlk (y : Yard) : ∀ (n : Nat) (path : Str) (pt : Y.Part) (ms : List Int), (mds y n path pt ms).map (fun e => (e.1, e.2.1)) = (wlk y n path pt).map (fun e => (e.1, e.2.name))
  | 0, _, _, _ => rfl
  | n + 1, path, pt, ms => by
    rw [mds_succ, wlk_succ, List.map_cons, List.map_cons, List.map_flatMap, List.map_flatMap]
    congr 1
    refine congrArg (fun f => pt.rows.flatMap f) (funext fun r => ?_)
    cases r with
    | use x q ws ts =>
      show (match fnd y q with
        | some p => mds y n (path ++ x ++ Str.ofString ".") p (ws.map (wv (kvN pt.params ms)))
        | none => []).map _ = (match fnd y q with
        | some p => wlk y n (path ++ x ++ Str.ofString ".") p
        | none => []).map _
      cases fnd y q with
      | none => rfl
      | some p => exact mds_wlk y n _ p _
    | _ => rfl
theorem vr_asks_of (vs H Q E) (h : sp_asks_of K vs H Q E) : (rd_asks_of K) { nx := fun _ H' => Q .non H', rt := Q } (start ["yard", "parts", "asks", "path", "name", "_", "row", "use", "used", "terms", "door", "term"] vs) H := by
  obtain ⟨ty, y, us, k, pt, rfl, Y_, gty, pts, ⟨hk, hl⟩, q⟩ := h
  unfold rd_asks_of
  have ly := Y_.ne.2
  have sl : (4000000 : Nat) < sizeLine := by decide
  have lu := pts.1
  walk_at "zz"
  refine ⟨ty, y, us, rfl, Y_, gty, pts, fun dp H1 pk dp0 e1 gdp bn => ?_⟩
  walk_at "zz"
  refine z_dnew fun d hd => ?_
  have e2 := Ex.new (o := .dK []) hd
  have gd : upd H1 d (.dK []) d = some (.dK []) := upd_same
  have gdp2 := e2 _ _ gdp
  have ndp : dp ≠ d := some_ne gdp hd
  have e12 := e1.trans e2
  have hd0 := ex_none e1 hd
  generalize upd H1 d (.dK []) = H2 at e2 gd gdp2 e12 ⊢
  walk_at "zz"
  refine ⟨ty, y, us, k, pt, rfl, Y_, e12 _ _ gty, pts.bu (B := []) (But.ex e12) (fun _ h => by cases h), ⟨hk, hl⟩, fun l H3 ls l0 e3 gl tls lls => ?_⟩
  have eH3 := e12.trans e3
  have gd3 := e3 _ _ gd
  have gdp3 := e3 _ _ gdp2
  have nld : l ≠ d := (some_ne gd l0).symm
  have okW := wlk_ok Y_ 6 k (Str.ofString "") pt hk (by omega) ((okT.of "" (n := 0) (by decide +kernel)).mono (by omega))
  have lW := wlk_len Y_ 6 k (Str.ofString "") pt hk
  have p2 : 2 ^ (k + 1) ≤ 2 ^ 4 := Nat.pow_le_pow_right (by decide) (by omega)
  have p16 : (2 : Nat) ^ 4 = 16 := by decide
  have mw := mds_wlk y 6 (Str.ofString "") pt []
  unfold asksL at q
  generalize wlk y 6 (Str.ofString "") pt = W at okW lW mw q
  generalize mds y 6 (Str.ofString "") pt [] = M at tls mw
  have lM := congrArg List.length mw
  rw [List.length_map, List.length_map] at lM
  have lls2 := tls.len
  rw [List.length_map] at lls2
  clear e2 e3 gd gdp2 e12 lls
  refine z_FT (st_of gl) (fun i σ' H' => ∃ (y3 y4 y5 y6 y7 y8 y9 y10 y11 : Option V) (kvs : List (Key × V)), σ' = [some (.ref ty), some (.ref dp), some (.ref d), y3, y4, y5, y6, y7, y8, y9, y10, y11] ∧ H' d = some (.dK kvs) ∧ WebF H H' kvs (foldW [] (putsW y (W.take i))) ∧ kvs.length ≤ i * 210 ∧ But [d] H3 H') ⟨_, _, _, _, _, _, _, _, _, [], rfl, gd3, .nil, by simp, But.refl⟩ (fun i σ' H' hi h => ?_) (fun i x σ' H' hi hx h => ?_) (fun σ' H' h => ?_)
  · obtain ⟨_, _, _, _, _, _, _, _, _, _, _, _, _, _, b⟩ := h
    exact st_of (b _ _ (by simp [nld]) gl)
  · obtain ⟨y3, y4, y5, y6, y7, y8, y9, y10, y11, kvs, rfl, gi, wi, li, bi⟩ := h
    obtain ⟨de, hde, tde⟩ := tls.get hx
    rw [List.getElem?_map] at hde
    obtain ⟨em, hem, rfl⟩ := Option.map_eq_some_iff.mp hde
    have hmw := congrArg (fun z => z[i]?) mw
    simp only [List.getElem?_map, hem, Option.map_some] at hmw
    obtain ⟨⟨path, p⟩, he, epn⟩ := Option.map_eq_some_iff.mp hmw.symm
    obtain ⟨pa_e, na_e, ms_e⟩ := em
    obtain ⟨e_1, e_2⟩ := Prod.mk.inj epn
    have e_1 : path = pa_e := e_1
    have e_2 : p.name = na_e := e_2
    subst e_1 e_2
    obtain ⟨⟨jp, hjp⟩, op⟩ := okW _ (List.mem_of_getElem? he)
    have hjp : y[jp]? = some p := hjp
    have op : okT path 63 := op
    have RO := rows_ok Y_ hjp
    have PP := RO.pu
    have eHi : Ex H H' := ((But.ex eH3 (B := [d])).trans bi).exOf fun p hp => by rw [List.mem_singleton.mp hp]; exact hd0
    obtain ⟨vp, hvp⟩ : ∃ v, us[jp]? = some v := ⟨_, List.getElem?_eq_getElem (by rw [pts.1]; exact (List.getElem?_eq_some_iff.mp hjp).1)⟩
    have gv := bn jp vp p (List.getElem?_eq_some_iff.mp hvp).1 hvp hjp
    obtain ⟨bu, pa_, ra, o, rs, rfl, hbu, hpa, od, hra, trs⟩ := (pts.2 jp vp p hvp hjp).ex eHi
    have lrs := trs.len
    rw [List.length_map] at lrs
    have lr := PP.rl
    obtain ⟨b, x0, x1, x2, rfl, hb, z0, z1, z2⟩ := tu3 (tde.mono (tk_d bi gd3))
    cases tu_str z0
    cases tu_str z1
    have gdpi := bi _ _ (by simp [ndp]) gdp3
    refine z_g3 (st_of hb) ?_
    walk_at "zz"
    refine ⟨dp, _, rfl, dgK gdpi gv, ?_⟩
    walk_at "zz"
    refine z_ixT (st_of hbu) (show atI _ ((2 : Nat) : Int) = _ from atI_nat rfl) ?_
    walk_at "zz"
    refine z_FT (st_of hra) (fun j σ' H5 => ∃ (y5 y6 y7 y8 y9 y10 y11 : Option V) (kvs : List (Key × V)), σ' = [some (.ref ty), some (.ref dp), some (.ref d), some (.str path), some (.str p.name), y5, y6, y7, y8, y9, y10, y11] ∧ H5 d = some (.dK kvs) ∧ WebF H H5 kvs (foldW [] (putsW y (W.take i) ++ (p.rows.take j).flatMap (rowA y path))) ∧ kvs.length ≤ i * 210 + j * 7 ∧ But [d] H' H5) ⟨_, _, _, _, _, _, _, kvs, rfl, gi, by rw [List.take_zero, List.flatMap_nil, List.append_nil]; exact wi, by omega, But.refl⟩ (fun j σ' H5 hj h => ?_) (fun j x σ' H5 hj hx h => ?_) (fun σ' H5 h => ?_)
    · obtain ⟨_, _, _, _, _, _, _, _, _, _, _, _, b5⟩ := h
      exact st_of (b5 _ _ (by simp [some_ne2 hra gi]) hra)
    · obtain ⟨z5, z6, z7, z8, z9, z10, z11, kv, rfl, gj, wj, lj, bj⟩ := h
      clear y3 y4 y5 y6 y7 y8 y9 y10 y11 wi li
      have tkj := tk_d bj gi
      obtain ⟨dd_, hdd, tdd⟩ := trs.get hx
      rw [List.getElem?_map] at hdd
      obtain ⟨r, hr, rfl⟩ := Option.map_eq_some_iff.mp hdd
      have tr := tdd.mono tkj
      have okr := RO.ok r (List.mem_of_getElem? hr)
      have ehj : Ex H H5 := ((But.ex eHi (B := [d])).trans bj).exOf fun p hp => by rw [List.mem_singleton.mp hp]; exact hd0
      have gdpj := bj _ _ (by simp [ndp]) gdpi
      have done : ∀ (σ2 : _root_.L2.St) (z5 z6 z7 z8 z9 z10 z11 : Option V) (H6 : Hp) (kv6 : List (Key × V)), σ2 = [some (.ref ty), some (.ref dp), some (.ref d), some (.str path), some (.str p.name), z5, z6, z7, z8, z9, z10, z11] → H6 d = some (.dK kv6) → WebF H H6 kv6 (foldW [] ((putsW y (W.take i) ++ (p.rows.take j).flatMap (rowA y path)) ++ rowA y path r)) → kv6.length ≤ kv.length + 7 → But [d] H5 H6 → ∃ (y5 y6 y7 y8 y9 y10 y11 : Option V) (kvs : List (Key × V)), σ2 = [some (.ref ty), some (.ref dp), some (.ref d), some (.str path), some (.str p.name), y5, y6, y7, y8, y9, y10, y11] ∧ H6 d = some (.dK kvs) ∧ WebF H H6 kvs (foldW [] (putsW y (W.take i) ++ (p.rows.take (j + 1)).flatMap (rowA y path))) ∧ kvs.length ≤ i * 210 + (j + 1) * 7 ∧ But [d] H' H6 := fun σ2 z5 z6 z7 z8 z9 z10 z11 H6 kv6 es g6 w6 l6 b6 => by
        refine ⟨z5, z6, z7, z8, z9, z10, z11, kv6, es, g6, ?_, by omega, bj.trans b6⟩
        rw [take_snoc hr, List.flatMap_append, ← List.append_assoc, show [r].flatMap (rowA y path) = rowA y path r by rw [List.flatMap_cons, List.flatMap_nil, List.append_nil]]
        exact w6
      cases r with
      | let_ x t =>
        obtain ⟨bb, x0, x1, x2, rfl, hbb, z0, z1, zt⟩ := tu3 tr
        cases tu_str z0
        cases tu_str z1
        walk_at "zz"
        refine z_ixT (st_of hbb) (show atI _ ((0 : Nat) : Int) = _ from atI_nat rfl) ?_
        walk_at "zz"
        try (rw [show decide (V.str (Str.ofString "let") = V.str (Str.ofString "let")) = true from decide_eq_true rfl]; refine ite_t ?_; walk_at "zz")
        refine z_ixT (st_of hbb) (show atI _ ((2 : Nat) : Int) = _ from atI_nat rfl) ?_
        walk_at "zz"
        refine ⟨x2, t, path, p.params, rfl, zt, ⟨okr.2.1, by have := okr.2.2; omega, PP.pn⟩, op.mono (by omega), fun l H6 hl6 e6 g6 => ?_⟩
        walk_at "zz"
        refine z_ixT (st_of (e6 _ _ hbb)) (show atI _ ((1 : Nat) : Int) = _ from atI_nat rfl) ?_
        walk_at "zz"
        refine z_addS (by rw [← txt_app_len]; exact (op.app okr.1.ok).sz (by decide)) ?_
        have lk := length_putK kv (Sum.inr (path ++ x)) (.ref l)
        refine ⟨d, _, rfl, DPut.k (k := Sum.inr (path ++ x)) (e6 _ _ gj) (by omega), ?_⟩
        have nld : l ≠ d := (some_ne gj hl6).symm
        have hbb7 : upd H6 d (.dK (putK kv (Sum.inr (path ++ x)) (.ref l))) bb = _ := (upd_ne (some_ne2 hbb gj)).trans (e6 _ _ hbb)
        have w7 : WebF H (upd H6 d (.dK (putK kv (Sum.inr (path ++ x)) (.ref l)))) (putK kv (Sum.inr (path ++ x)) (.ref l)) (foldW [] ((putsW y (W.take i) ++ (p.rows.take j).flatMap (rowA y path)) ++ [(path ++ x, askL path t)])) := by
          rw [foldW_snoc]
          exact webF_put ((wj.ex e6).bu (But.put (List.mem_singleton.mpr rfl)) (e6 _ _ gj) (fun _ z => by cases z)) (ex_none ehj hl6) (by rw [upd_ne nld]; exact g6)
        have b7 : But [d] H5 (upd H6 d (.dK (putK kv (Sum.inr (path ++ x)) (.ref l)))) := (But.ex e6).trans (But.put (List.mem_singleton.mpr rfl))
        have g7 : upd H6 d (.dK (putK kv (Sum.inr (path ++ x)) (.ref l))) d = some (.dK (putK kv (Sum.inr (path ++ x)) (.ref l))) := upd_same
        generalize upd H6 d _ = H7 at hbb7 w7 b7 g7 ⊢
        walk_at "zz"
        refine z_ixT (st_of hbb7) (show atI _ ((0 : Nat) : Int) = _ from atI_nat rfl) ?_
        walk_at "zz"
        try (rw [let_use]; refine ite_f ?_; walk_at "zz")
        exact done _ _ _ _ _ _ _ _ H7 _ rfl g7 w7 (by omega) b7
      | use x q_ ws ts =>
        obtain ⟨nmx, i', p', hi', hp', rfl⟩ := use_ahead Y_ hjp (List.mem_of_getElem? hr)
        obtain ⟨bb, x0, x1, x2, x3, x4, rfl, hbb, z0, z1, z2, z3, zt⟩ := tu5 tr
        cases tu_str z0
        cases tu_str z1
        cases tu_str z2
        obtain ⟨v', hv'⟩ : ∃ v, us[i']? = some v := ⟨_, List.getElem?_eq_getElem (by rw [pts.1]; exact (List.getElem?_eq_some_iff.mp hp').1)⟩
        have gv' := bn i' v' p' (List.getElem?_eq_some_iff.mp hv').1 hv' hp'
        have pa' := (pts.2 i' v' p' hv' hp').ex ehj
        have PP' := Y_.pu p' (List.mem_of_getElem? hp')
        walk_at "zz"
        refine z_ixT (st_of hbb) (show atI _ ((0 : Nat) : Int) = _ from atI_nat rfl) ?_
        walk_at "zz"
        try (rw [use_let]; refine ite_f ?_; walk_at "zz")
        refine z_ixT (st_of hbb) (show atI _ ((0 : Nat) : Int) = _ from atI_nat rfl) ?_
        walk_at "zz"
        try (rw [show decide (V.str (Str.ofString "use") = V.str (Str.ofString "use")) = true from decide_eq_true rfl]; refine ite_t ?_; walk_at "zz")
        refine z_g5 (st_of hbb) ?_
        walk_at "zz"
        refine ⟨dp, _, rfl, dgK gdpj gv', ?_⟩
        walk_at "zz"
        refine ⟨v', p', Str.ofString "in", rfl, pa', PP', fun D2 H7 hD2 e57 g7 => ?_⟩
        rw [ins_filter] at g7
        have g7 : H7 D2 = some (.lst ((insOf p').map V.str)) := g7
        obtain ⟨_, p2_, _, hp2_, hpn_, _, _, lts⟩ := use_more Y_ hjp (List.mem_of_getElem? hr)
        have : p2_ = p' := by
          have := name_inj Y_ hp2_ hp' hpn_
          rw [this, hp'] at hp2_
          exact (Option.some.inj hp2_).symm
        subst this
        obtain ⟨bt, xt, rfl, hbt, txt⟩ := tu_tup zt
        have lxt := txt.len
        rw [List.length_map] at lxt
        have di := PP'.di
        have gj7 := e57 _ _ gj
        have hbb7 := e57 _ _ hbb
        have w7 := wj.ex e57
        have txt7 := txt.ex e57
        have hbt7 := e57 _ _ hbt
        have hb57 : But [d] H5 H7 := But.ex e57
        have n2d : D2 ≠ d := (some_ne gj hD2).symm
        have eH7 := ehj.trans e57
        walk_at "zz"
        have ra_ := rowA_use Y_ hp' path x ws ts
        refine z_FZw (b := false) (c := true) (n := ts.length) (by rw [List.length_map]; omega) (sqs_l (sq_of g7)) (sqs_t (st_of hbt7)) (fun m σ' H8 => ∃ (y5 y6 y8 y10 y11 : Option V) (kv8 : List (Key × V)), σ' = [some (.ref ty), some (.ref dp), some (.ref d), some (.str path), some (.str p.name), y5, y6, some (.str x), y8, some (.ref bt), y10, y11] ∧ H8 d = some (.dK kv8) ∧ WebF H H8 kv8 (foldW [] ((putsW y (W.take i) ++ (p.rows.take j).flatMap (rowA y path)) ++ (((insOf p2_).zip ts).take m).map fun (e : Str × Trm) => (path ++ x ++ Str.ofString "." ++ e.1, askL path e.2))) ∧ kv8.length ≤ kv.length + m ∧ But [d] H7 H8) ⟨_, _, _, _, _, kv, rfl, gj7, by rw [List.take_zero, List.map_nil, List.append_nil]; exact w7, by omega, But.refl⟩ (fun m σ' H8 hm h => ?_) (fun m xd xt_ tp σ' H8 H9 hm hxd hxt h e9 htp hH9 => ?_) (fun σ' H8 h => ?_)
        · obtain ⟨_, _, _, _, _, _, _, _, _, _, b8⟩ := h
          exact ⟨sqs_l (sq_of (b8 _ _ (by simp [n2d]) g7)), sqs_t (st_of (b8 _ _ (by simp [some_ne2 hbt7 gj7]) hbt7))⟩
        · obtain ⟨y5, y6, y8, y10, y11, kv8, rfl, g8, w8, l8, b8⟩ := h
          rw [List.getElem?_map] at hxd
          obtain ⟨dn, hdn, rfl⟩ := Option.map_eq_some_iff.mp hxd
          obtain ⟨dt, hdt, tdt⟩ := txt7.get hxt
          rw [List.getElem?_map] at hdt
          obtain ⟨t, ht, rfl⟩ := Option.map_eq_some_iff.mp hdt
          have okt := okr.2.2.2 t (List.mem_of_getElem? ht)
          have nmd : nmS dn := by
            obtain ⟨e_, he_, rfl⟩ := List.mem_map.mp (List.mem_of_getElem? hdn)
            exact (PP'.dr e_ (List.mem_filter.mp he_).1).1
          have tk8 := tk_d b8 gj7
          have tpv : H9 tp = some (.tup [.str dn, xt_]) := by rw [hH9]; exact upd_same
          refine z_g2 (st_of tpv) ?_
          walk_at "zz"
          refine ⟨xt_, t, path, p.params, rfl, (tdt.mono tk8).ex e9, ⟨okt.1, by have := okt.2; omega, PP.pn⟩, op.mono (by omega), fun l HA hlA eA gA => ?_⟩
          have e8A := e9.trans eA
          walk_at "zz"
          have o1 := op.app okr.1.ok
          have o2 := o1.app (okT.of "." (n := 1) (by decide +kernel))
          refine z_addS (by rw [← txt_app_len]; exact o1.sz (by decide)) ?_
          walk_at "zz"
          refine z_addS (by rw [← txt_app_len]; exact o2.sz (by decide)) ?_
          walk_at "zz"
          refine z_addS (by rw [← txt_app_len]; exact (o2.app nmd.ok).sz (by decide)) ?_
          generalize hn : path ++ x ++ Str.ofString "." ++ dn = nm_ at *
          have lk := length_putK kv8 (Sum.inr nm_) (.ref l)
          refine ⟨d, _, rfl, DPut.k (k := Sum.inr nm_) (e8A _ _ g8) (by omega), ?_⟩
          have nld : l ≠ d := (some_ne (e9 _ _ g8) hlA).symm
          refine ⟨_, _, _, _, _, _, rfl, upd_same, ?_, by omega, (b8.trans (But.ex e8A)).trans (But.put (List.mem_singleton.mpr rfl))⟩
          rw [zip_take hdn ht, List.map_append, ← List.append_assoc, List.map_cons, List.map_nil, hn, foldW_snoc]
          have eHA : Ex H H9 := ((((But.ex eH7 (B := [d])).trans b8)).trans (But.ex e9)).exOf fun p hp => by rw [List.mem_singleton.mp hp]; exact hd0
          exact webF_put ((w8.ex e8A).bu (But.put (List.mem_singleton.mpr rfl)) (e8A _ _ g8) (fun _ z => by cases z)) (ex_none eHA hlA) (by rw [upd_ne nld]; exact gA)
        obtain ⟨y5, y6, y8, y10, y11, kv8, rfl, g8, w8, l8, b8⟩ := h
        refine done _ _ _ _ _ _ _ _ H8 kv8 rfl g8 ?_ (by omega) (hb57.trans b8)
        rw [List.take_of_length_le (l := (insOf p2_).zip ts) (by rw [List.length_zip]; omega)] at w8
        rw [ra_]
        exact w8
      | _ =>
        obtain ⟨bb, rest, rfl, hbb, _⟩ := tu_row tr
        walk_at "zz"
        refine z_ixT (st_of hbb) (show atI _ ((0 : Nat) : Int) = _ from atI_nat rfl) ?_
        walk_at "zz"
        try (rw [rk_let]; refine ite_f ?_; walk_at "zz")
        refine z_ixT (st_of hbb) (show atI _ ((0 : Nat) : Int) = _ from atI_nat rfl) ?_
        walk_at "zz"
        try (rw [rk_use]; refine ite_f ?_; walk_at "zz")
        exact done _ _ _ _ _ _ _ _ H5 kv rfl gj (by rw [show rowA y path _ = [] from rfl, List.append_nil]; exact wj) (by omega) But.refl
    obtain ⟨z5, z6, z7, z8, z9, z10, z11, kv, rfl, gj, wj, lj, bj⟩ := h
    rw [lrs, List.take_length] at wj
    rw [lrs] at lj
    refine ⟨_, _, _, _, _, _, _, _, _, kv, rfl, gj, ?_, by omega, bi.trans bj⟩
    rw [take_snoc he, putsW_snoc]
    exact wj
  obtain ⟨y3, y4, y5, y6, y7, y8, y9, y10, y11, kvs, rfl, gi, wi, li, bi⟩ := h
  rw [lls2, lM, List.take_length] at wi
  walk_at "zz"
  exact q d H' kvs hd0 (((But.ex eH3 (B := [d])).trans bi).exOf fun p hp => by rw [List.mem_singleton.mp hp]; exact hd0) gi wi
theorem szm {n : Nat} (h : n ≤ 15000000) : n < sizeLine := Nat.lt_of_le_of_lt h (by decide)
theorem web_ex {H H' : Hp} {kvs : List (Key × V)} {g : Web} (e : Ex H H') (h : WebKV K H kvs g) : WebKV K H' kvs g := Paired.mono (fun _ _ ⟨z, l, y, x⟩ => ⟨z, l, y, ex_l e x⟩) h
theorem cut_drop (r : List Str) (i : Nat) : cutV (r.map V.str) (some (i : Int)) none = (r.drop i).map V.str := by
  unfold cutV
  rw [HT.sIx_none, HT.sIx_nat, ← List.map_drop, List.take_of_length_le (by rw [List.length_map, List.length_drop, List.length_map]; exact Nat.le_refl _), List.length_map]
  congr 1
  by_cases h : i ≤ r.length
  · rw [Nat.min_eq_left h]
  · rw [Nat.min_eq_right (by omega), List.drop_of_length_le (Nat.le_refl _), List.drop_of_length_le (by omega)]
theorem wK_le {get : Str → List Str} {p : List (Str × Nat)} (h : ∀ k, (get k).length ≤ 30) : ∀ ks : List Str, M18.wK get p ks ≤ 60 * ks.length
  | [] => Nat.le_refl _
  | k :: r => by
    have ih := wK_le (p := p) h r
    have := h k
    rw [M18.wK_cons, List.length_cons]
    by_cases z : M18.place p k = none
    · rw [if_pos z]
      omega
    · rw [if_neg z]
      omega
theorem wL_len : ∀ L : List (List Str), L.length ≤ M18.wL L
  | [] => Nat.le_refl _
  | l :: r => by
    have := wL_len r
    rw [M18.wL_cons, List.length_cons]
    omega
theorem getW_le {g : Web} (h : ∀ p ∈ g, p.2.length ≤ 30) (n : Str) : (getW g n).length ≤ 30 := by
  unfold getW
  cases e : g.find? fun p => decide (p.1 = n) with
  | none => exact Nat.zero_le _
  | some p => exact h p (List.mem_of_find?_eq_some e)
abbrev Ins (H : Hp) : List Addr → List (List Str) → Prop := Paired fun r l => H r = some (HO.lst (l.reverse.map V.str))
theorem ins_upd {H : Hp} {x : Addr} {o : HO} : ∀ {fs : List Addr} {ls : List (List Str)}, Ins H fs ls → (∀ r ∈ fs, r ≠ x) → Ins (upd H x o) fs ls
  | _, _, .nil, _ => .nil
  | _, _, .cons e r, h => .cons (by rw [upd_ne (h _ (List.mem_cons_self ..))]; exact e) (ins_upd r fun y hy => h y (List.mem_cons_of_mem _ hy))
theorem ins_ex {H H' : Hp} (e : Ex H H') {fs : List Addr} {ls : List (List Str)} (h : Ins H fs ls) : Ins H' fs ls := Paired.mono (fun _ _ z => e _ _ z) h
theorem ins_some {H : Hp} {x : Addr} : ∀ {fs : List Addr} {ls : List (List Str)}, Ins H fs ls → x ∈ fs → ∃ o, H x = some o
  | _, _, .nil, h => by cases h
  | _, _, .cons e r, h => by
    rcases List.mem_cons.mp h with z | z
    · rw [z]
      exact ⟨_, e⟩
    · exact ins_some r z
structure RI (H0 : Hp) (d w p f : Addr) (L : Nat) (s : M18.St Str) (m : Nat) (H : Hp) : Prop where
  but : But [d] H0 H
  hw : H w = some (.lst (s.way.reverse.map V.str))
  hp : ∃ pl, H p = some (.dK pl) ∧ (∀ n, valV pl (.inr n) = (M18.place s.places n).map fun i => V.int (i : Int)) ∧ pl.length + m ≤ 20000
  hf : ∃ fs : List Addr, H f = some (.lst (fs.reverse.map V.ref)) ∧ Ins H fs s.left ∧ fs.Nodup ∧ ∀ r ∈ fs, H0 r = none ∧ r ≠ w ∧ r ≠ p ∧ r ≠ f
  hd : ∃ dk, H d = some (.dK dk) ∧ Dn dk s.done ∧ dk.length + m ≤ L + 20000
  wl : s.way.length + m ≤ 20000
/-- a known dict or list stays where another one is changed -/
theorem rd_but {H H' : Hp} {a d : Addr} {u : HO} (b : But [d] H H') (ne : a ≠ d) (h : Rd H a u) : Rd H' a u := by
  rcases h with h | ⟨o, h⟩
  · exact .inl (b _ _ (by simp [ne]) h)
  · exact .inr ⟨o, b _ _ (by simp [ne]) h⟩
theorem sq_but {K : PySem.W.Frag} {H H' : Hp} {l d : Addr} {xs : List V} {kvs : List (Key × V)} (b : But [d] H H') (hd : H d = some (.dK kvs)) (h : SqL K H l xs) : SqL K H' l xs := by
  rcases h with h | h
  · refine .inl (rd_but b (fun z => ?_) h)
    subst z
    rcases h with h | ⟨o, h⟩ <;> rw [hd] at h <;> cases h
  · exact .inr h
theorem web_but {K : PySem.W.Frag} {H H' : Hp} {d : Addr} {dk kvs : List (Key × V)} {g : Web} (b : But [d] H H') (hd : H d = some (.dK dk)) (h : WebKV K H kvs g) : WebKV K H' kvs g := Paired.mono (fun _ _ ⟨z, l, y, x⟩ => ⟨z, l, y, sq_but b hd x⟩) h
/-- what a web's dict has, or none -/
theorem web_opt {K : PySem.W.Frag} {H : Hp} {n : Str} : ∀ {kvs : List (Key × V)} {g : Web}, WebKV K H kvs g → (valV kvs (Sum.inr n) = none ∧ getW g n = []) ∨ ∃ l, valV kvs (Sum.inr n) = some (.ref l) ∧ SqL K H l ((getW g n).map V.str)
  | _, _, .nil => .inl ⟨rfl, rfl⟩
  | kv :: kvs, p :: g, .cons e r => by
    obtain ⟨ek, l, el, hs⟩ := e
    by_cases z : p.1 = n
    · have eg : getW (p :: g) n = p.2 := by
        unfold getW
        rw [List.find?_cons_of_pos (by simp [z])] <;> rfl
      rw [eg, valV_pos (by rw [ek, z]), el]
      exact .inr ⟨l, rfl, hs⟩
    · have eg : getW (p :: g) n = getW g n := by
        unfold getW
        rw [List.find?_cons_of_neg (by simp [z])]
      rw [eg, valV_neg (by rw [ek]; exact fun y => z (Sum.inr.inj y))]
      exact web_opt r
theorem vr_p_ring_from (vs H Q E) (h : sp_p_ring_from K vs H Q E) : (rd_p_ring_from K) { nx := fun _ H' => Q .non H', rt := Q } (start ["start", "asks", "done", "way", "places", "left", "name"] vs) H := by
  obtain ⟨s0, a, d, g, kvs, dk0, ds, rfl, ha, hk, ⟨h4, h40⟩, nad, hd0, hdn0, hdl, q⟩ := h
  unfold rd_p_ring_from
  walk_at "zz"
  refine ⟨szl (by simp), fun w hw => ?_⟩
  walk_at "zz"
  refine z_dnew fun p hp => ?_
  walk_at "zz"
  refine ⟨szl (by simp), fun r0 hr0 => ?_⟩
  walk_at "zz"
  refine ⟨szl (by simp), fun f hf => ?_⟩
  walk_at "zz"
  have e1 : Ex H (upd H w (.lst [])) := Ex.new hw
  have e2 := e1.trans (Ex.new (o := .dK []) hp)
  have e3 := e2.trans (Ex.new (o := .lst [.str s0]) hr0)
  have e4 := e3.trans (Ex.new (o := .lst [.ref r0]) hf)
  have np : H p = none := fresh_back e1 hp
  have nr0 : H r0 = none := fresh_back e2 hr0
  have nf : H f = none := fresh_back e3 hf
  have wp : w ≠ p := fun z => by subst z; rw [upd_same] at hp; cases hp
  have wr : w ≠ r0 := fun z => by subst z; rw [upd_ne wp, upd_same] at hr0; cases hr0
  have pr : p ≠ r0 := fun z => by subst z; rw [upd_same] at hr0; cases hr0
  have wf : w ≠ f := fun z => by subst z; rw [upd_ne wr, upd_ne wp, upd_same] at hf; cases hf
  have pf : p ≠ f := fun z => by subst z; rw [upd_ne pr, upd_same] at hf; cases hf
  have rf : r0 ≠ f := fun z => by subst z; rw [upd_same] at hf; cases hf
  have dw : d ≠ w := fun z => by subst z; rw [hd0] at hw; cases hw
  have dp : d ≠ p := fun z => by subst z; rw [hd0] at np; cases np
  have df : d ≠ f := fun z => by subst z; rw [hd0] at nf; cases nf
  have gw : upd (upd (upd (upd H w (.lst [])) p (.dK [])) r0 (.lst [.str s0])) f (.lst [.ref r0]) w = some (.lst []) := by rw [upd_ne wf, upd_ne wr, upd_ne wp, upd_same]
  have gp : upd (upd (upd (upd H w (.lst [])) p (.dK [])) r0 (.lst [.str s0])) f (.lst [.ref r0]) p = some (.dK []) := by rw [upd_ne pf, upd_ne pr, upd_same]
  have gr : upd (upd (upd (upd H w (.lst [])) p (.dK [])) r0 (.lst [.str s0])) f (.lst [.ref r0]) r0 = some (.lst [.str s0]) := by rw [upd_ne rf, upd_same]
  have gf : upd (upd (upd (upd H w (.lst [])) p (.dK [])) r0 (.lst [.str s0])) f (.lst [.ref r0]) f = some (.lst [.ref r0]) := upd_same
  have gd := e4 _ _ hd0
  generalize upd (upd (upd (upd H w (.lst [])) p (.dK [])) r0 (.lst [.str s0])) f (.lst [.ref r0]) = H4 at e4 gw gp gr gf gd ⊢
  have mu0 : M18.mu (getW g) (g.map (·.1)) ⟨[], [], [[s0]], ds⟩ ≤ 20000 := by
    have := wK_le (p := []) (getW_le h4) (g.map (·.1))
    rw [List.length_map] at this
    unfold M18.mu
    show M18.wL [[s0]] + M18.wK (getW g) [] (g.map (·.1)) ≤ 20000
    have e : M18.wL [[s0]] = 3 := rfl
    omega
  refine z_while (fun m σ' H' => ∃ (s : M18.St Str) (y6 : Option V), m = M18.mu (getW g) (g.map (·.1)) s ∧ σ' = [some (.str s0), some (.ref a), some (.ref d), some (.ref w), some (.ref p), some (.ref f), y6] ∧ RI H d w p f dk0.length s m H' ∧ M18.run (getW g) (g.map (·.1)) (web_hk g) s = rFrom g s0 ds) (M18.mu (getW g) (g.map (·.1)) ⟨[], [], [[s0]], ds⟩) ?_ ?_
  · exact ⟨⟨[], [], [[s0]], ds⟩, none, rfl, rfl, ⟨But.ex e4, gw, ⟨[], gp, fun n => rfl, by simpa using mu0⟩, ⟨[r0], gf, .cons gr .nil, by simp, fun r hr => by
      rw [List.mem_singleton] at hr
      subst hr
      exact ⟨nr0, fun z => wr z.symm, fun z => pr z.symm, rf⟩⟩, ⟨dk0, gd, hdn0, by show dk0.length + _ ≤ dk0.length + 20000; omega⟩, by simpa using mu0⟩, rfl⟩
  rintro m σ' H5 ⟨s, y6, rfl, rfl, I, hrun⟩
  obtain ⟨hbut, hw5, ⟨pl, hp5, hpl, hpll⟩, ⟨fs, hf5, hins, hnd, hfr⟩, ⟨dk, hd5, hdn, hdkl⟩, hwl⟩ := I
  obtain ⟨way, places, left, done⟩ := s
  generalize hmu : M18.mu (getW g) (g.map (·.1)) ⟨way, places, left, done⟩ = m at hpll hdkl hwl ⊢
  walk_at "zz"
  refine z_trul (sq_of hf5) ?_
  dsimp only at hw5 hpl hins hdn hwl
  cases hins with
  | nil =>
    refine ite_f ?_
    walk_at "zz"
    have hs : M18.step (getW g) ⟨way, places, [], done⟩ = .fin none done := rfl
    have hr := (M18.run_fin (hk := web_hk g) hs).symm.trans hrun
    have := q H5 dk hbut hd5 (by rw [← hr]; exact hdn) (by omega)
    rw [← hr] at this
    exact this
  | @cons r t fr rest hr hrest =>
    rw [show (!((r :: fr).reverse.map V.ref).isEmpty) = true by simp]
    refine ite_t ?_
    have hrf := hfr r (List.mem_cons_self ..)
    have rd : r ≠ d := fun z => by rw [z, hd0] at hrf; cases hrf.1
    have hfr' : ∀ x ∈ fr, H x = none ∧ x ≠ w ∧ x ≠ p ∧ x ≠ f := fun x hx => hfr x (List.mem_cons_of_mem _ hx)
    have hfd : ∀ x ∈ fr, x ≠ d := fun x hx z => by have := hfr' x hx; rw [z, hd0] at this; cases this.1
    have hnr : ∀ x ∈ fr, x ≠ r := fun x hx z => by subst z; exact (List.nodup_cons.mp hnd).1 hx
    have hnd' := (List.nodup_cons.mp hnd).2
    have hf6 : H5 f = some (.lst (fr.reverse.map V.ref ++ [.ref r])) := by rw [hf5]; simp
    refine ⟨_, fun _ _ h => h, ?_⟩
    walk_at "zz"
    refine z_ixLast (xs := fr.reverse.map V.ref) (v := .ref r) (sq_of hf6) ?_
    walk_at "zz"
    refine z_trul (sq_of hr) ?_
    cases t with
    | nil =>
      refine ite_b (fun _ => ?_) (fun h => by simp at h)
      walk_at "zz"
      refine z_tyl (sq_of hf6) ?_
      refine z_rpopLast hf6 ?_
      walk_at "zz"
      have hw6 : upd H5 f (.lst (fr.reverse.map V.ref)) w = some (.lst (way.reverse.map V.str)) := by rw [upd_ne wf]; exact hw5
      refine z_trul (sq_of hw6) ?_
      cases way with
      | nil =>
        refine ite_f ?_
        walk_at "zz"
        have hs : M18.step (getW g) ⟨[], places, [] :: rest, done⟩ = .go ⟨[], places, rest, done⟩ := rfl
        have less := M18.step_less (web_hk g) hs
        rw [hmu] at less
        refine ⟨_, less, _, _, rfl, rfl, ⟨hbut.mut nf, hw6, ⟨pl, by rw [upd_ne pf]; exact hp5, hpl, by omega⟩, ⟨fr, upd_same, ins_upd hrest fun x hx => (hfr' x hx).2.2.2, hnd', hfr'⟩, ⟨dk, by rw [upd_ne df]; exact hd5, hdn, by omega⟩, by show 0 + _ ≤ 20000; simp at hwl; omega⟩, (M18.run_go hs).symm.trans hrun⟩
      | cons x ws =>
        refine ite_b (fun _ => ?_) (fun h => by simp at h)
        have hw7 : upd H5 f (.lst (fr.reverse.map V.ref)) w = some (.lst (ws.reverse.map V.str ++ [.str x])) := by rw [hw6]; simp
        walk_at "zz"
        refine z_tyl (sq_of hw7) ?_
        refine z_rpopLast hw7 ?_
        have hd7 : upd (upd H5 f (.lst (fr.reverse.map V.ref))) w (.lst (ws.reverse.map V.str)) d = some (.dK dk) := by rw [upd_ne dw, upd_ne df]; exact hd5
        refine ⟨d, _, rfl, DPut.k (k := Sum.inr x) hd7 (szm (by omega)), ?_⟩
        walk_at "zz"
        have hs : M18.step (getW g) ⟨x :: ws, places, [] :: rest, done⟩ = .go ⟨ws, places, rest, x :: done⟩ := rfl
        have less := M18.step_less (web_hk g) hs
        rw [hmu] at less
        have lp := length_putK dk (Sum.inr x) (.bl true)
        refine ⟨_, less, _, _, rfl, rfl, ⟨((hbut.mut nf).mut hw).put' (by simp), by rw [upd_ne dw.symm, upd_same], ⟨pl, by rw [upd_ne dp.symm, upd_ne wp.symm, upd_ne pf]; exact hp5, hpl, by omega⟩, ⟨fr, by rw [upd_ne df.symm, upd_ne wf.symm, upd_same], ins_upd (ins_upd (ins_upd hrest fun x hx => (hfr' x hx).2.2.2) fun x hx => (hfr' x hx).2.1) hfd, hnd', hfr'⟩, ⟨_, upd_same, fun n => ?_, by omega⟩, by show ws.length + _ ≤ 20000; simp at hwl; omega⟩, (M18.run_go hs).symm.trans hrun⟩
        rw [valV_put]
        by_cases z : n = x
        · subst z
          simp
        · rw [if_neg (fun y => z (Sum.inr.inj y)), hdn n]
          simp [z]
    | cons n l =>
      refine ite_b (fun h => by simp at h) (fun _ => ?_)
      have hr6 : H5 r = some (.lst (l.reverse.map V.str ++ [.str n])) := by rw [hr]; simp
      walk_at "zz"
      refine z_ixLast (xs := fr.reverse.map V.ref) (v := .ref r) (sq_of hf6) ?_
      refine z_tyl (sq_of hr6) ?_
      refine z_rpopLast hr6 ?_
      walk_at "zz"
      have hbut6 := hbut.mut (o := .lst (l.reverse.map V.str)) hrf.1
      have hd6 : upd H5 r (.lst (l.reverse.map V.str)) d = some (.dK dk) := by rw [upd_ne rd.symm]; exact hd5
      have hp6 : upd H5 r (.lst (l.reverse.map V.str)) p = some (.dK pl) := by rw [upd_ne hrf.2.2.1.symm]; exact hp5
      have hw6 : upd H5 r (.lst (l.reverse.map V.str)) w = some (.lst (way.reverse.map V.str)) := by rw [upd_ne hrf.2.1.symm]; exact hw5
      have hf7 : upd H5 r (.lst (l.reverse.map V.str)) f = some (.lst (fr.reverse.map V.ref ++ [.ref r])) := by rw [upd_ne hrf.2.2.2.symm]; exact hf6
      have hr7 : upd H5 r (.lst (l.reverse.map V.str)) r = some (.lst (l.reverse.map V.str)) := upd_same
      have hin6 : Ins (upd H5 r (.lst (l.reverse.map V.str))) fr rest := ins_upd hrest hnr
      generalize upd H5 r (.lst (l.reverse.map V.str)) = H6 at hbut6 hd6 hp6 hw6 hf7 hr7 hin6 ⊢
      refine ⟨d, _, rfl, DGet.k (k := Sum.inr n) hd6, ?_⟩
      walk_at "zz"
      rw [hdn n]
      by_cases hm : n ∈ done
      · rw [decide_eq_true hm]
        refine ite_t ?_
        walk_at "zz"
        have hs : M18.step (getW g) ⟨way, places, (n :: l) :: rest, done⟩ = .go ⟨way, places, l :: rest, done⟩ := by
          unfold M18.step
          exact if_pos hm
        have less := M18.step_less (web_hk g) hs
        rw [hmu] at less
        refine ⟨_, less, _, _, rfl, rfl, ⟨hbut6, hw6, ⟨pl, hp6, hpl, by omega⟩, ⟨r :: fr, by rw [hf7]; simp, .cons hr7 hin6, hnd, hfr⟩, ⟨dk, hd6, hdn, by omega⟩, by show way.length + _ ≤ 20000; omega⟩, (M18.run_go hs).symm.trans hrun⟩
      rw [decide_eq_false hm]
      refine ite_f ?_
      walk_at "zz"
      refine ⟨p, _, rfl, DGet.k (k := Sum.inr n) hp6, ?_⟩
      walk_at "zz"
      rw [hpl n]
      cases hpn : M18.place places n with
      | some i =>
        refine ite_t ?_
        walk_at "zz"
        refine ⟨p, .int (i : Int), rfl, ?_, ?_⟩
        · have := DGet.k (k := Sum.inr n) hp6
          rw [hpl n, hpn] at this
          exact this
        walk_at "zz"
        refine z_slL (sq_of hw6) fun p3 hp3 => ?_
        have hs : M18.step (getW g) ⟨way, places, (n :: l) :: rest, done⟩ = .fin (some (way.reverse.drop i)) done := by
          unfold M18.step
          simp only [if_neg hm, hpn]
        have hr := (M18.run_fin (hk := web_hk g) hs).symm.trans hrun
        have := q H6 dk hbut6 hd6 (by rw [← hr]; exact hdn) (by omega)
        rw [← hr] at this
        exact this p3 _ hp3 (Ex.new hp3) (by rw [upd_same]; exact congrArg (fun z => some (HO.lst z)) (cut_drop _ i))
      | none =>
        refine ite_f ?_
        walk_at "zz"
        refine z_lenL (sq_of hw6) ?_
        walk_at "zz"
        refine ⟨p, _, rfl, DPut.k (k := Sum.inr n) hp6 (szm (by omega)), ?_⟩
        walk_at "zz"
        rw [List.length_map, List.length_reverse]
        have hw7 : upd H6 p (.dK (putK pl (Sum.inr n) (.int (way.length : Int)))) w = some (.lst (way.reverse.map V.str)) := by rw [upd_ne wp]; exact hw6
        refine z_tyl (sq_of hw7) ?_
        walk_at "zz"
        refine z_rapp hw7 (szm (by rw [List.length_map, List.length_reverse]; omega)) ?_
        walk_at "zz"
        have b8 := (hbut6.mut (o := .dK (putK pl (Sum.inr n) (.int (way.length : Int)))) np).mut (o := .lst (way.reverse.map V.str ++ [.str n])) hw
        have w8 : upd (upd H6 p (.dK (putK pl (Sum.inr n) (.int (way.length : Int))))) w (.lst (way.reverse.map V.str ++ [.str n])) w = some (.lst (way.reverse.map V.str ++ [.str n])) := upd_same
        have p8 : upd (upd H6 p (.dK (putK pl (Sum.inr n) (.int (way.length : Int))))) w (.lst (way.reverse.map V.str ++ [.str n])) p = some (.dK (putK pl (Sum.inr n) (.int (way.length : Int)))) := by rw [upd_ne wp.symm, upd_same]
        have f8 : upd (upd H6 p (.dK (putK pl (Sum.inr n) (.int (way.length : Int))))) w (.lst (way.reverse.map V.str ++ [.str n])) f = some (.lst (fr.reverse.map V.ref ++ [.ref r])) := by rw [upd_ne wf.symm, upd_ne pf.symm]; exact hf7
        have d8 : upd (upd H6 p (.dK (putK pl (Sum.inr n) (.int (way.length : Int))))) w (.lst (way.reverse.map V.str ++ [.str n])) d = some (.dK dk) := by rw [upd_ne dw, upd_ne dp]; exact hd6
        have i8 : Ins (upd (upd H6 p (.dK (putK pl (Sum.inr n) (.int (way.length : Int))))) w (.lst (way.reverse.map V.str ++ [.str n]))) (r :: fr) (l :: rest) := ins_upd (ins_upd (.cons hr7 hin6) fun x hx => (hfr x hx).2.2.1) fun x hx => (hfr x hx).2.1
        generalize upd (upd H6 p (.dK (putK pl (Sum.inr n) (.int (way.length : Int))))) w (.lst (way.reverse.map V.str ++ [.str n])) = H8 at b8 w8 p8 f8 d8 i8 ⊢
        refine z_tyl (sq_of f8) ?_
        walk_at "zz"
        refine z_revOf ?_
        walk_at "zz"
        have ha8 := rd_but b8 nad ha
        refine ⟨a, rfl, .inl ⟨kvs, ha8⟩, ?_⟩
        walk_at "zz"
        refine ⟨szl (by simp), fun e he => ?_⟩
        have x9 : Ex H8 (upd H8 e (.lst [])) := Ex.new he
        have e9 : upd H8 e (.lst []) e = some (.lst []) := upd_same
        have hk9 := web_ex x9 (web_but b8 hd0 hk)
        have ha9 := Evl.ex_rd x9 ha8
        have f9 := x9 _ _ f8
        have fin : ∀ y9 : Option V, ∀ H9 v, Ex H8 H9 → SqL K H9 v ((getW g n).map V.str) → ∃ a_1 xs, V.ref v = .ref a_1 ∧ SqL K H9 a_1 xs ∧ ∀ q_1, H9 q_1 = none → rAppend (.ref f) [.ref q_1] (upd H9 q_1 (.lst xs.reverse)) fun _ H1 => ∃ m', m' < m ∧ ∃ (s : M18.St Str) (y6 : Option V), m' = M18.mu (getW g) (g.map (·.1)) s ∧ [some (.str s0), some (.ref a), some (.ref d), some (.ref w), some (.ref p), some (.ref f), some (.str n)] = [some (.str s0), some (.ref a), some (.ref d), some (.ref w), some (.ref p), some (.ref f), y6] ∧ RI H d w p f dk0.length s m' H1 ∧ M18.run (getW g) (g.map (·.1)) (web_hk g) s = rFrom g s0 ds := fun y9 H9 v x9 hv => by
          refine ⟨v, _, rfl, hv, fun q1 hq1 => ?_⟩
          have nq8 : H8 q1 = none := fresh_back x9 hq1
          have nqH : H q1 = none := b8.fresh nq8 (by
            rw [List.mem_singleton]
            intro z
            rw [z, d8] at nq8
            cases nq8)
          have x10 : Ex H8 (upd H9 q1 (.lst ((getW g n).map V.str).reverse)) := x9.trans (Ex.new hq1)
          have qw : q1 ≠ w := fun z => by rw [z, w8] at nq8; cases nq8
          have qp : q1 ≠ p := fun z => by rw [z, p8] at nq8; cases nq8
          have qf : q1 ≠ f := fun z => by rw [z, f8] at nq8; cases nq8
          have q10 : upd H9 q1 (.lst ((getW g n).map V.str).reverse) q1 = some (.lst ((getW g n).reverse.map V.str)) := by rw [upd_same, List.map_reverse]
          generalize upd H9 q1 (.lst ((getW g n).map V.str).reverse) = H10 at x10 q10 ⊢
          have hs : M18.step (getW g) ⟨way, places, (n :: l) :: rest, done⟩ = .go ⟨n :: way, (n, way.length) :: places, getW g n :: l :: rest, done⟩ := by
            unfold M18.step
            simp only [if_neg hm, hpn]
          have less := M18.step_less (web_hk g) hs
          rw [hmu] at less
          have hqn : ∀ x ∈ r :: fr, x ≠ q1 := fun x hx z => by
            have := ins_some i8 hx
            obtain ⟨o, ho⟩ := this
            rw [z, nq8] at ho
            cases ho
          have lp := length_putK pl (Sum.inr n) (.int (way.length : Int))
          have hlen : fr.length + 1 ≤ 20000 := by
            have h1 : M18.wL ((n :: l) :: rest) ≤ m := by
              rw [← hmu]
              unfold M18.mu
              exact Nat.le_add_right _ _
            have h2 := wL_len ((n :: l) :: rest)
            have h3 := Paired.length i8
            rw [List.length_cons, List.length_cons] at h3
            rw [List.length_cons] at h2
            omega
          refine z_rapp (x10 _ _ f8) (szm (by simp; omega)) ?_
          refine ⟨_, less, _, _, rfl, rfl, ⟨(b8.trans (But.ex x10)).mut nf, by rw [upd_ne wf, x10 _ _ w8]; simp, ⟨_, by rw [upd_ne pf]; exact x10 _ _ p8, fun k => ?_, by omega⟩, ⟨q1 :: r :: fr, by rw [upd_same]; simp, ins_upd (.cons q10 (ins_ex x10 i8)) (fun x hx => ?_), List.nodup_cons.mpr ⟨fun z => hqn _ z rfl, hnd⟩, fun x hx => ?_⟩, ⟨dk, by rw [upd_ne df]; exact x10 _ _ d8, hdn, by omega⟩, by show way.length + 1 + _ ≤ 20000; omega⟩, (M18.run_go hs).symm.trans hrun⟩
          · rw [valV_put, M18.place_cons]
            by_cases z : k = n
            · subst z
              rw [if_pos rfl, if_pos rfl] <;> rfl
            · rw [if_neg (fun y => z (Sum.inr.inj y)), if_neg (fun y => z y.symm), hpl k]
          · rcases List.mem_cons.mp hx with z | z
            · rw [z]; exact qf
            · exact (hfr x z).2.2.2
          · rcases List.mem_cons.mp hx with z | z
            · rw [z]
              exact ⟨nqH, qw, qp, qf⟩
            · exact hfr x z
        rcases web_opt (n := n) hk9 with ⟨hv, hg⟩ | ⟨v, hv, hs⟩
        · refine ⟨none, .inl ⟨kvs, Sum.inr n, ha9, rfl, hv.symm⟩, ?_⟩
          exact fin none _ e x9 (by rw [hg]; exact sq_of e9)
        · refine ⟨some (.ref v), .inl ⟨kvs, Sum.inr n, ha9, rfl, hv.symm⟩, ?_⟩
          exact fin none _ v x9 hs
theorem web_at {K : PySem.W.Frag} {H : Hp} : ∀ {kvs : List (Key × V)} {g : Web} {i : Nat} {k : Key} {v : V}, WebKV K H kvs g → kvs[i]? = some (k, v) → ∃ p, g[i]? = some p ∧ k = Sum.inr p.1 ∧ ∃ l, v = .ref l ∧ SqL K H l (p.2.map V.str)
  | _, _, _, _, _, .nil, h => by simp at h
  | _, _, 0, _, _, .cons e _, h => by
    cases h
    exact ⟨_, rfl, e.1, e.2⟩
  | _, _, i + 1, _, _, .cons _ r, h => web_at (i := i) r h
theorem ringL_cons {get : Str → List Str} {keys : List Str} {hk : ∀ n, n ∉ keys → get n = []} {n : Str} {ns done : List Str} : M18.ringL get keys hk (n :: ns) done = match M18.ringFrom get keys hk n done with
    | (some r, _) => some r
    | (none, d) => M18.ringL get keys hk ns d := by
  rw [M18.ringL]
  rcases M18.ringFrom get keys hk n done with ⟨_ | _, _⟩ <;> rfl
theorem nodup_len {l : List Str} : ∀ {m : List Str}, l.Nodup → (∀ x ∈ l, x ∈ m) → l.length ≤ m.length := by
  induction l with
  | nil => intro m _ _; exact Nat.zero_le _
  | cons x r ih =>
    intro m nd s
    have nd' := List.nodup_cons.mp nd
    have hm := s x (List.mem_cons_self ..)
    have := ih (m := m.erase x) nd'.2 fun y hy => (List.mem_erase_of_ne (fun z => nd'.1 (by rw [← z]; exact hy))).mpr (s y (List.mem_cons_of_mem _ hy))
    rw [List.length_erase_of_mem hm] at this
    have := List.length_pos_of_mem hm
    rw [List.length_cons]
    omega
theorem lock_ex {H H4 : Hp} {a d : Addr} {u z o : HO} (ha : H a = some u) (hd : H d = none) (b : But [d] (upd (upd H d o) a z) H4) : Ex H (upd H4 a u) := fun x y e => by
  by_cases h : x = a
  · subst h
    rw [upd_same, ← e, ha]
  · rw [upd_ne h]
    have xd : x ≠ d := ne_of_none e hd
    exact b x y (by simp [xd]) (by rw [upd_ne h, upd_ne xd]; exact e)
theorem vr_ring_in (vs H Q E) (h : sp_ring_in K vs H Q E) : (rd_ring_in K) { nx := fun _ H' => Q .non H', rt := Q } (start ["asks", "done", "name", "ring"] vs) H := by
  obtain ⟨a, g, kvs, rfl, ha, hk, h4, q⟩ := h
  unfold rd_ring_in
  walk_at "zz"
  refine z_dnew fun d hd => ?_
  walk_at "zz"
  have nad : a ≠ d := ne_of_none ha hd
  refine z_lock (d := a) (u := .dK kvs) (by rw [upd_ne nad]; exact ha) trivial fun od => ?_
  walk_at "zz"
  have h1a : upd (upd H d (.dK [])) a (.frz od (.dK kvs)) a = some (.frz od (.dK kvs)) := upd_same
  have h1d : upd (upd H d (.dK [])) a (.frz od (.dK kvs)) d = some (.dK []) := by rw [upd_ne nad.symm, upd_same]
  have hk1 : WebKV K (upd (upd H d (.dK [])) a (.frz od (.dK kvs))) kvs g := by
    refine Paired.mono (fun _ _ ⟨z, l, y, x⟩ => ⟨z, l, y, ?_⟩) hk
    rcases x with x | x
    · refine .inl ?_
      have la : l ≠ a := fun z => by
        subst z
        rcases x with x | ⟨ob, x⟩ <;> rw [ha] at x <;> cases x
      have ld : l ≠ d := fun z => by
        subst z
        rcases x with x | ⟨ob, x⟩ <;> rw [hd] at x <;> cases x
      rcases x with x | ⟨ob, x⟩
      · exact .inl (by rw [upd_ne la, upd_ne ld]; exact x)
      · exact .inr ⟨ob, by rw [upd_ne la, upd_ne ld]; exact x⟩
    · exact .inr x
  have kl := Paired.length hk
  refine z_FK h1a (fun i σ' H' => ∃ y2 y3 dk ds, σ' = [some (.ref a), some (.ref d), y2, y3] ∧ But [d] (upd (upd H d (.dK [])) a (.frz od (.dK kvs))) H' ∧ H' d = some (.dK dk) ∧ Dn dk ds ∧ dk.length ≤ i * 20000 ∧ M18.ringL (getW g) (g.map (·.1)) (web_hk g) ((g.map (·.1)).drop i) ds = ringAll g) ?_ ?_ ?_ ?_
  · exact ⟨_, _, [], [], rfl, But.refl, h1d, fun n => rfl, Nat.zero_le _, rfl⟩
  · rintro i σ' H' hi ⟨y2, y3, dk, ds, rfl, b, _⟩
    exact b _ _ (by simp [nad]) h1a
  · rintro i k v σ' H2 hi hkv ⟨y2, y3, dk, ds, rfl, b, hd2, hdn, hdl, hrun⟩
    obtain ⟨p, hp, rfl, l, rfl, hs⟩ := web_at hk1 hkv
    have nm : (g.map (·.1))[i]? = some p.1 := by rw [List.getElem?_map, hp] <;> rfl
    have ha2 : Rd H2 a (.dK kvs) := .inr ⟨od, b _ _ (by simp [nad]) h1a⟩
    have ed : (g.map (·.1)).drop i = p.1 :: (g.map (·.1)).drop (i + 1) := by
      obtain ⟨hlt, he⟩ := List.getElem?_eq_some_iff.mp nm
      rw [← he, List.getElem_cons_drop]
    rw [ed] at hrun
    walk_at "zz"
    refine ⟨p.1, a, d, g, kvs, dk, ds, rfl, ha2, web_but b h1d hk1, h4, nad, hd2, hdn, by omega, fun H3 dk3 b3 d3 n3 l3 => ?_⟩
    have e2 : rFrom g p.1 ds = ((rFrom g p.1 ds).1, (rFrom g p.1 ds).2) := rfl
    rw [ringL_cons] at hrun
    cases e : (rFrom g p.1 ds).1 with
    | none =>
      rw [e] at e2
      rw [show M18.ringFrom (getW g) (g.map (·.1)) (web_hk g) p.1 ds = _ from e2] at hrun
      unfold RetRing
      walk_at "zz"
      refine ite_f ?_
      walk_at "zz"
      exact ⟨_, _, dk3, _, rfl, b.trans b3, d3, n3, by omega, hrun⟩
    | some x =>
      rw [e] at e2
      rw [show M18.ringFrom (getW g) (g.map (·.1)) (web_hk g) p.1 ds = _ from e2] at hrun
      have hrun : some x = ringAll g := hrun
      unfold RetRing
      intro p3 H4 hp3 e4 h4'
      walk_at "zz"
      rw [decide_eq_false (by intro z; cases z)]
      refine ite_t ?_
      walk_at "zz"
      have a3 := b3 _ _ (by simp [nad]) (b _ _ (by simp [nad]) h1a)
      have a4 := e4 _ _ a3
      have pa : p3 ≠ a := fun z => by rw [z, a3] at hp3; cases hp3
      have pd : p3 ≠ d := fun z => by rw [z, d3] at hp3; cases hp3
      refine ⟨a4, ?_⟩
      have bb := (b.trans b3).trans (But.ex e4)
      rw [← hrun] at q
      refine q p3 _ ?_ (lock_ex ha hd bb) (by rw [upd_ne pa]; exact h4')
      have := (b.trans b3).fresh hp3 (by simp [pd])
      rw [upd_ne pa, upd_ne pd] at this
      exact this
  · rintro σ' H2 ⟨y2, y3, dk, ds, rfl, b, hd2, hdn, hdl, hrun⟩
    refine ⟨b _ _ (by simp [nad]) h1a, ?_⟩
    walk_at "zz"
    rw [kl, show (g.map (·.1)).drop g.length = [] by simp] at hrun
    have hrun : none = ringAll g := hrun
    rw [← hrun] at q
    exact RetV.go q (lock_ex ha hd b)
/-! no name asks itself all round: a rank of full names -/
abbrev ch (s : Str) : List Nat := s.cps.toList
theorem ch_app (a b : Str) : ch (a ++ b) = ch a ++ ch b := by
  show (a.cps ++ b.cps).toList = _
  rw [Array.toList_append]
theorem ch_dot : ch (Str.ofString ".") = [46] := by decide +kernel
theorem S_ch (x : Str) : S (ch x) = x := (S_of x).symm
theorem nm_dot {x : Str} (h : nmS x) : ∀ c ∈ ch x, (decide (c ≠ 46)) = true := fun c hc => decide_eq_true (by have := h.2.2 c hc; omega)
def MadeBy (y : Yard) (pt : Y.Part) (sts : List St) : Prop := ∃ (i : Nat) (zs : List Str) (hds : List Hd) (hr : List Y.Row), y[i]? = some pt ∧ Made (y.take i) zs pt.params pt.name pt hds hr sts ∧ zs.Nodup ∧ ∀ z ∈ zs, nmS z
open Classical in
noncomputable def stsOf (y : Yard) (pt : Y.Part) : List St := if h : ∃ sts, MadeBy y pt sts then Classical.choose h else []
theorem sts_ok {y : Yard} (Y_ : YardOk y) {k : Nat} {pt : Y.Part} (hk : y[k]? = some pt) : MadeBy y pt (stsOf y pt) := by
  obtain ⟨zs, hds, hr, sts, m, nd, _, nz⟩ := Y_.md k pt hk
  have h : ∃ sts, MadeBy y pt sts := ⟨sts, k, zs, hds, hr, hk, m, nd, nz⟩
  unfold stsOf
  rw [dif_pos h]
  exact Classical.choose_spec h
theorem sts_len (y : Yard) (pt : Y.Part) : (stsOf y pt).length ≤ 6 := by
  unfold stsOf
  split
  next h =>
    obtain ⟨i, zs, hds, hr, _, m, _⟩ := Classical.choose_spec h
    exact m.sl.2
  next => exact Nat.zero_le _
noncomputable def ix (y : Yard) (pt : Y.Part) (x : Str) : Nat := match (stsOf y pt).findIdx? (fun s => decide (s.x = x)) with
  | some i => i + 1
  | none => 0
noncomputable def sub (y : Yard) (pt : Y.Part) (x : Str) : Y.Part := match (stsOf y pt).find? (fun s => decide (s.x = x)) with
  | some (.us _ p _ _) => p
  | _ => pt
theorem ix_le (y : Yard) (pt : Y.Part) (x : Str) : ix y pt x ≤ 6 := by
  unfold ix
  have := sts_len y pt
  cases h : (stsOf y pt).findIdx? (fun s => decide (s.x = x)) with
  | none => exact Nat.zero_le _
  | some i =>
    have := (List.findIdx?_eq_some_iff_getElem.mp h).1
    show i + 1 ≤ 6
    omega
theorem xs_nodup {yd : Yard} {zs ps : List Str} {nm : Str} {pt : Y.Part} {hds : List Hd} {hr : List Y.Row} {sts : List St} (m : Made yd zs ps nm pt hds hr sts) (nd : zs.Nodup) : (hds.map Hd.x ++ sts.map St.x).Nodup := by
  rw [m.names]
  exact nd.sublist (List.take_sublist _ _)
theorem nd_at {sts : List St} (nd : (sts.map St.x).Nodup) {i j : Nat} {s s' : St} (hi : sts[i]? = some s) (hj : sts[j]? = some s') (e : s.x = s'.x) : i = j := by
  obtain ⟨li, ei⟩ := List.getElem?_eq_some_iff.mp hi
  obtain ⟨lj, ej⟩ := List.getElem?_eq_some_iff.mp hj
  have pw := List.pairwise_iff_getElem.mp nd
  rcases Nat.lt_trichotomy i j with h | h | h
  · exact absurd (show (sts.map St.x)[i]'(by rw [List.length_map]; exact li) = (sts.map St.x)[j]'(by rw [List.length_map]; exact lj) by rw [List.getElem_map, List.getElem_map, ei, ej, e]) (pw i j _ _ h)
  · exact h
  · exact absurd (show (sts.map St.x)[j]'(by rw [List.length_map]; exact lj) = (sts.map St.x)[i]'(by rw [List.length_map]; exact li) by rw [List.getElem_map, List.getElem_map, ei, ej, e]) (pw j i _ _ h)
theorem ix_step {y : Yard} {pt : Y.Part} (h : MadeBy y pt (stsOf y pt)) {i : Nat} {s : St} (hi : (stsOf y pt)[i]? = some s) : ix y pt s.x = i + 1 ∧ ∀ x p ws ts, s = .us x p ws ts → sub y pt x = p := by
  obtain ⟨_, zs, hds, hr, _, m, nd, _⟩ := h
  have nd2 := (List.nodup_append.mp (xs_nodup m nd)).2.1
  unfold ix sub
  clear m
  generalize stsOf y pt = sts at *
  have key : ∀ j (hj : j < sts.length), decide (sts[j].x = s.x) = true → j = i := fun j hj e => nd_at nd2 (List.getElem?_eq_getElem hj) hi (of_decide_eq_true e)
  obtain ⟨li, ei⟩ := List.getElem?_eq_some_iff.mp hi
  refine ⟨?_, fun x p ws ts e => ?_⟩
  · have : sts.findIdx? (fun s' => decide (s'.x = s.x)) = some i := List.findIdx?_eq_some_iff_getElem.mpr ⟨li, by rw [ei]; exact decide_eq_true rfl, fun j hj e => by
      have := key j (by omega) e
      omega⟩
    rw [this]
  · subst e
    have : sts.find? (fun s' => decide (s'.x = x)) = some (.us x p ws ts) := by
      cases h : sts.find? (fun s' => decide (s'.x = x)) with
      | none => exact absurd (List.find?_eq_none.mp h _ (List.mem_of_getElem? hi)) (by show ¬ ¬ decide (x = x) = true; simp)
      | some s' =>
        obtain ⟨j, hj, e⟩ := List.mem_iff_getElem.mp (List.mem_of_find?_eq_some h)
        have h1 := List.find?_some h
        have := key j hj (by rw [e]; exact h1)
        subst this
        rw [← e, ei]
    rw [this]
theorem ix_head {y : Yard} {pt : Y.Part} (h : MadeBy y pt (stsOf y pt)) : ∃ W0 : List Str, OrdOk W0 (stsOf y pt) ∧ ∀ x ∈ W0, nmS x ∧ ix y pt x = 0 := by
  obtain ⟨_, zs, hds, hr, _, m, nd, nz⟩ := h
  refine ⟨_, m.ord, fun x hx => ?_⟩
  unfold wsN wsH at hx
  obtain ⟨p, hp, hx⟩ := List.mem_flatMap.mp hx
  obtain ⟨hd, hhd, rfl⟩ := List.mem_map.mp hp
  have hhd := (List.mem_filter.mp hhd).1
  have : x = hd.x := by simpa [Trm.names] using hx
  subst this
  refine ⟨(m.hok hd hhd).1, ?_⟩
  unfold ix
  have : (stsOf y pt).findIdx? (fun s => decide (s.x = hd.x)) = none := List.findIdx?_eq_none_iff.mpr fun s hs => decide_eq_false fun e => (List.nodup_append.mp (xs_nodup m nd)).2.2 hd.x (List.mem_map.mpr ⟨hd, hhd, rfl⟩) s.x (List.mem_map.mpr ⟨s, hs, rfl⟩) e.symm
  rw [this]
/-- the rank -/
noncomputable def rkN (y : Yard) : Nat → Y.Part → List Nat → Nat
  | 0, _, _ => 0
  | n + 1, pt, s => ix y pt (S (s.takeWhile fun c => decide (c ≠ 46))) * 8 ^ n + match s.dropWhile fun c => decide (c ≠ 46) with
    | [] => 0
    | _ :: r => rkN y n (sub y pt (S (s.takeWhile fun c => decide (c ≠ 46)))) r
theorem rkN_lt (y : Yard) : ∀ (n : Nat) (pt : Y.Part) (s : List Nat), rkN y n pt s < 8 ^ n
  | 0, _, _ => Nat.one_pos
  | n + 1, pt, s => by
    have h1 := ix_le y pt (S (s.takeWhile fun c => decide (c ≠ 46)))
    have h2 : ix y pt (S (s.takeWhile fun c => decide (c ≠ 46))) * 8 ^ n ≤ 6 * 8 ^ n := Nat.mul_le_mul_right _ h1
    have h3 : 8 ^ (n + 1) = 8 * 8 ^ n := by rw [Nat.pow_succ, Nat.mul_comm]
    have h4 : 0 < 8 ^ n := Nat.pow_pos (by decide)
    rw [rkN]
    cases s.dropWhile fun c => decide (c ≠ 46) with
    | nil =>
      show _ + 0 < _
      omega
    | cons c r =>
      have := rkN_lt y n (sub y pt (S (s.takeWhile fun c => decide (c ≠ 46)))) r
      show _ + rkN y n _ r < _
      omega
theorem tw_all {x : List Nat} (h : ∀ c ∈ x, (decide (c ≠ 46)) = true) (r : List Nat) : (x ++ 46 :: r).takeWhile (fun c => decide (c ≠ 46)) = x ∧ (x ++ 46 :: r).dropWhile (fun c => decide (c ≠ 46)) = 46 :: r := by
  rw [List.takeWhile_append_of_pos h, List.dropWhile_append_of_pos h]
  simp
theorem tw_all0 {x : List Nat} (h : ∀ c ∈ x, (decide (c ≠ 46)) = true) : x.takeWhile (fun c => decide (c ≠ 46)) = x ∧ x.dropWhile (fun c => decide (c ≠ 46)) = [] := by
  have h1 := List.takeWhile_append_of_pos (l₂ := []) h
  have h2 := List.dropWhile_append_of_pos (l₂ := []) h
  rw [List.append_nil] at h1 h2
  rw [h1, h2]
  simp
theorem rk_nm {y : Yard} {n : Nat} {pt : Y.Part} {x : Str} (h : nmS x) : rkN y (n + 1) pt (ch x) = ix y pt x * 8 ^ n := by
  rw [rkN, (tw_all0 (nm_dot h)).1, (tw_all0 (nm_dot h)).2, S_ch] <;> rfl
theorem rk_dot {y : Yard} {n : Nat} {pt : Y.Part} {x : Str} (h : nmS x) (r : List Nat) : rkN y (n + 1) pt (ch x ++ 46 :: r) = ix y pt x * 8 ^ n + rkN y n (sub y pt x) r := by
  rw [rkN, (tw_all (nm_dot h) r).1, (tw_all (nm_dot h) r).2, S_ch]
/-- a use's row is a step -/
theorem use_step {y : Yard} {pt : Y.Part} (h : MadeBy y pt (stsOf y pt)) {x q : Str} {ws : List Wd} {ts : List Trm} (hr : Y.Row.use x q ws ts ∈ pt.rows) : nmS x ∧ ∃ (i : Nat) (p : Y.Part), (stsOf y pt)[i]? = some (.us x p ws ts) ∧ p.name = q ∧ p ∈ y := by
  obtain ⟨k, zs, hds, hr', _, m, _⟩ := h
  rcases List.mem_append.mp (m.perm.mem_iff.mp hr) with h | h
  · obtain ⟨s, hs, hrow⟩ := List.mem_flatMap.mp h
    cases s with
    | lt b x' w t =>
      rcases List.mem_cons.mp hrow with e | hrow
      · cases b <;> cases e
      · cases List.mem_singleton.mp hrow
    | us x' p ws' ts' =>
      cases List.mem_singleton.mp hrow
      obtain ⟨i, hi, e⟩ := List.mem_iff_getElem.mp hs
      obtain ⟨h1, h2, _⟩ := m.sok _ hs
      exact ⟨h2, i, p, by rw [List.getElem?_eq_getElem hi, e], rfl, List.mem_of_mem_take h1⟩
  · obtain ⟨hd, _, c⟩ := m.hcp _ h
    cases c
theorem let_step {y : Yard} {pt : Y.Part} (h : MadeBy y pt (stsOf y pt)) {x : Str} {t : Trm} (hr : Y.Row.let_ x t ∈ pt.rows) : nmS x ∧ ∃ (i : Nat) (b : Bool) (w : Wd), (stsOf y pt)[i]? = some (.lt b x w t) := by
  obtain ⟨k, zs, hds, hr', _, m, _⟩ := h
  rcases List.mem_append.mp (m.perm.mem_iff.mp hr) with h | h
  · obtain ⟨s, hs, hrow⟩ := List.mem_flatMap.mp h
    cases s with
    | lt b x' w t' =>
      rcases List.mem_cons.mp hrow with e | hrow
      · cases b <;> cases e
      · cases List.mem_singleton.mp hrow
        obtain ⟨i, hi, e⟩ := List.mem_iff_getElem.mp hs
        exact ⟨(m.sok _ hs).1, i, b, w, by rw [List.getElem?_eq_getElem hi, e]⟩
    | us x' p ws' ts' => cases List.mem_singleton.mp hrow
  · obtain ⟨hd, _, c⟩ := m.hcp _ h
    cases c
theorem step_ok {y : Yard} {pt : Y.Part} (h : MadeBy y pt (stsOf y pt)) : ∀ s ∈ stsOf y pt, nmS s.x := fun s hs => by
  obtain ⟨k, zs, hds, hr', _, m, _⟩ := h
  cases s with
  | lt => exact (m.sok _ hs).1
  | us => exact (m.sok _ hs).2.1
/-- what a step may ask ranks lower than the step -/
theorem rk_lo {y : Yard} {pt : Y.Part} (h : MadeBy y pt (stsOf y pt)) {i n : Nat} {s : St} (hi : (stsOf y pt)[i]? = some s) {a : Str} (ha : a ∈ s.asks) : rkN y (n + 1) pt (ch a) < (i + 1) * 8 ^ n := by
  obtain ⟨W0, ord, h0⟩ := ix_head h
  have h8 : 0 < 8 ^ n := Nat.pow_pos (by decide)
  rcases List.mem_append.mp (ord i s hi a ha) with hw | hw
  · obtain ⟨nm, z⟩ := h0 a hw
    rw [rk_nm nm, z, Nat.zero_mul]
    exact Nat.mul_pos (Nat.succ_pos _) h8
  · obtain ⟨s', hs', hw⟩ := List.mem_flatMap.mp hw
    obtain ⟨j, hj, e⟩ := List.mem_iff_getElem.mp hs'
    rw [List.length_take] at hj
    rw [List.getElem_take] at e
    have hj' : (stsOf y pt)[j]? = some s' := by rw [List.getElem?_eq_getElem (by omega), e]
    have st := (ix_step h hj').1
    have nm := step_ok h s' (List.mem_of_getElem? hj')
    have hm : (j + 2) * 8 ^ n ≤ (i + 2) * 8 ^ n - 8 ^ n := by
      have : (j + 2) * 8 ^ n ≤ (i + 1) * 8 ^ n := Nat.mul_le_mul_right _ (by omega)
      have e : (i + 2) * 8 ^ n = (i + 1) * 8 ^ n + 8 ^ n := Nat.succ_mul (i + 1) _
      omega
    have e1 : (i + 2) * 8 ^ n = (i + 1) * 8 ^ n + 8 ^ n := Nat.succ_mul (i + 1) _
    have e2 : (j + 2) * 8 ^ n = (j + 1) * 8 ^ n + 8 ^ n := Nat.succ_mul (j + 1) _
    cases s' with
    | lt b x w t =>
      have : a = x := by simpa [St.words] using hw
      subst this
      have st : ix y pt a = j + 1 := st
      have nm : nmS a := nm
      rw [rk_nm nm, st]
      omega
    | us x p ws ts =>
      obtain ⟨o, _, rfl⟩ := List.mem_map.mp hw
      have st : ix y pt x = j + 1 := st
      have nm : nmS x := nm
      have lt := rkN_lt y n (sub y pt x) (ch o)
      rw [ch_app, ch_app, ch_dot, List.append_assoc, List.singleton_append, rk_dot nm, st]
      omega
/-- along a path -/
theorem rk_path {y : Yard} (Y_ : YardOk y) : ∀ (n k : Nat) (path : Str) (pt : Y.Part), y[k]? = some pt → ∀ e ∈ wlk y n path pt, ∃ (rel : List Nat) (d : Nat), ch e.1 = ch path ++ rel ∧ d ≤ k ∧ ∀ N, d ≤ N → ∃ pre, ∀ s, rkN y N pt (rel ++ s) = pre + rkN y (N - d) e.2 s
  | 0, _, _, _, _, _, h => by cases h
  | n + 1, k, path, pt, hk, e, h => by
    rw [wlk_succ] at h
    rcases List.mem_cons.mp h with rfl | h
    · exact ⟨[], 0, by rw [List.append_nil], Nat.zero_le _, fun N _ => ⟨0, fun s => by rw [List.nil_append, Nat.zero_add, Nat.sub_zero]⟩⟩
    obtain ⟨r, hr, he⟩ := List.mem_flatMap.mp h
    cases r with
    | use x q ws ts =>
      obtain ⟨nmx, i, p, hi, hp, rfl⟩ := use_ahead Y_ hk hr
      have he : e ∈ (match fnd y p.name with
        | some p => wlk y n (path ++ x ++ Str.ofString ".") p
        | none => []) := he
      rw [fnd_at Y_ hp] at he
      obtain ⟨rel, d, h1, h2, h3⟩ := rk_path Y_ n i _ p hp e he
      have mb := sts_ok Y_ hk
      obtain ⟨_, j, p', hj, hn, hp'⟩ := use_step mb hr
      have : p' = p := by
        obtain ⟨j', hj', e'⟩ := List.mem_iff_getElem.mp hp'
        have hj2 : y[j']? = some p' := by rw [List.getElem?_eq_getElem hj', e']
        have := name_inj Y_ hj2 hp hn
        rw [this, hp] at hj2
        exact (Option.some.inj hj2).symm
      subst this
      obtain ⟨_, sb⟩ := ix_step mb hj
      have sb := sb _ _ _ _ rfl
      refine ⟨ch x ++ 46 :: rel, d + 1, ?_, by omega, fun N hN => ?_⟩
      · rw [h1, ch_app, ch_app, ch_dot]
        simp
      · obtain ⟨N', rfl⟩ : ∃ N', N = N' + 1 := ⟨N - 1, by omega⟩
        obtain ⟨pre, hpre⟩ := h3 N' (by omega)
        refine ⟨ix y pt x * 8 ^ N' + pre, fun s => ?_⟩
        rw [List.append_assoc, List.cons_append, rk_dot nmx, sb, hpre, Nat.add_assoc]
        congr 3
        omega
    | _ => cases he
theorem dd_mem : ∀ (l acc : List Str) (x : Str), x ∈ dd acc l → x ∈ acc ∨ x ∈ l
  | [], _, _, h => .inl h
  | a :: l, acc, x, h => by
    rcases dd_mem l _ x h with h | h
    · by_cases z : a ∈ acc
      · rw [if_pos z] at h
        exact .inl h
      · rw [if_neg z] at h
        rcases List.mem_append.mp h with h | h
        · exact .inl h
        · exact .inr (by rw [List.mem_singleton.mp h]; exact List.mem_cons_self ..)
    · exact .inr (List.mem_cons_of_mem _ h)
theorem ask_mem {path : Str} {t : Trm} {m : Str} (h : m ∈ askL path t) : ∃ a ∈ t.names, m = path ++ a := by
  rcases dd_mem _ _ _ h with h | h
  · cases h
  · obtain ⟨a, ha, e⟩ := List.mem_map.mp h
    exact ⟨a, ha, e.symm⟩
theorem asks_rank {y : Yard} (Y_ : YardOk y) {k : Nat} {pt : Y.Part} (hk : y[k]? = some pt) : ∃ R : Str → Nat, ∀ e ∈ asksL y pt, ∀ m ∈ e.2, R m < R e.1 := by
  refine ⟨fun s => rkN y 6 pt (ch s), fun e he m hm => ?_⟩
  have k3 : k ≤ 3 := by
    have := Y_.ne.2
    have := (List.getElem?_eq_some_iff.mp hk).1
    omega
  obtain ⟨⟨path, p⟩, hw, he⟩ := List.mem_flatMap.mp he
  obtain ⟨r, hr, he⟩ := List.mem_flatMap.mp he
  have hr : r ∈ p.rows := hr
  have he : e ∈ rowA y path r := he
  obtain ⟨⟨j, hj⟩, _⟩ := wlk_ok Y_ 6 k (Str.ofString "") pt hk k3 ((okT.of "" (n := 0) (by decide +kernel)).mono (by omega)) _ hw
  obtain ⟨rel, d, h1, h2, h3⟩ := rk_path Y_ 6 k _ pt hk _ hw
  obtain ⟨pre, hpre⟩ := h3 6 (by omega)
  have hj : y[j]? = some p := hj
  have h1 : ch path = rel := by
    have : ch path = ch (Str.ofString "") ++ rel := h1
    rw [this] <;> rfl
  have hpre : ∀ s, rkN y 6 pt (rel ++ s) = pre + rkN y (6 - d) p s := hpre
  obtain ⟨M, hM⟩ : ∃ M, 6 - d = M + 1 := ⟨5 - d, by omega⟩
  rw [hM] at hpre
  have mb := sts_ok Y_ hj
  show rkN y 6 pt (ch m) < rkN y 6 pt (ch e.1)
  cases r with
  | let_ x t =>
    have he := List.mem_singleton.mp he
    subst he
    obtain ⟨a, ha, rfl⟩ := ask_mem hm
    obtain ⟨nmx, i, b, w, hi⟩ := let_step mb hr
    have st := (ix_step mb hi).1
    have st : ix y p x = i + 1 := st
    have lo := rk_lo mb (n := M) hi (a := a) ha
    show rkN y 6 pt (ch (path ++ a)) < rkN y 6 pt (ch (path ++ x))
    rw [ch_app, ch_app, h1, hpre, hpre, rk_nm nmx, st]
    omega
  | use x q ws ts =>
    obtain ⟨nmx, i, p', hi, hn, hp'⟩ := use_step mb hr
    obtain ⟨j', hj', e'⟩ := List.mem_iff_getElem.mp hp'
    have hj2 : y[j']? = some p' := by rw [List.getElem?_eq_getElem hj', e']
    subst hn
    rw [rowA_use Y_ hj2] at he
    obtain ⟨⟨dn, t⟩, hz, rfl⟩ := List.mem_map.mp he
    have ht := (List.of_mem_zip hz).2
    obtain ⟨a, ha, rfl⟩ := ask_mem hm
    have st := (ix_step mb hi).1
    have st : ix y p x = i + 1 := st
    have lo := rk_lo mb (n := M) hi (a := a) (List.mem_flatMap.mpr ⟨t, ht, ha⟩)
    show rkN y 6 pt (ch (path ++ a)) < rkN y 6 pt (ch (path ++ x ++ Str.ofString "." ++ dn))
    rw [ch_app, ch_app, ch_app, ch_app, ch_dot, h1, hpre, List.append_assoc, List.append_assoc, hpre, List.singleton_append, rk_dot nmx, st]
    omega
  | _ => cases he
theorem putW_mem {P : Str × List Str → Prop} {g : Web} {n : Str} {zs : List Str} (h : ∀ p ∈ g, P p) (hn : P (n, zs)) : ∀ p ∈ putW g n zs, P p := fun p hp => by
  unfold putW at hp
  split at hp
  · obtain ⟨x, hx, rfl⟩ := List.mem_map.mp hp
    by_cases z : x.1 = n
    · rw [if_pos z, z]
      exact hn
    · rw [if_neg z]
      exact h x hx
  · rcases List.mem_append.mp hp with hp | hp
    · exact h p hp
    · rw [List.mem_singleton.mp hp]
      exact hn
theorem foldW_mem {P : Str × List Str → Prop} : ∀ {ps g : Web}, (∀ p ∈ g, P p) → (∀ p ∈ ps, P p) → ∀ p ∈ foldW g ps, P p
  | [], _, h, _ => h
  | q :: ps, g, h, hp => foldW_mem (ps := ps) (g := putW g q.1 q.2) (putW_mem h (hp q (List.mem_cons_self ..))) fun p hp' => hp p (List.mem_cons_of_mem _ hp')
theorem putW_len (g : Web) (n : Str) (zs : List Str) : (putW g n zs).length ≤ g.length + 1 := by
  unfold putW
  split
  · rw [List.length_map]; omega
  · simp
theorem foldW_len : ∀ (ps g : Web), (foldW g ps).length ≤ g.length + ps.length
  | [], _ => Nat.le_refl _
  | q :: ps, g => by
    have := foldW_len ps (putW g q.1 q.2)
    have := putW_len g q.1 q.2
    rw [List.length_cons]
    show (foldW (putW g q.1 q.2) ps).length ≤ _
    omega
theorem getW_in {g : Web} {n m : Str} (h : m ∈ getW g n) : (n, getW g n) ∈ g := by
  unfold getW at h ⊢
  cases e : g.find? fun p => decide (p.1 = n) with
  | none =>
    rw [e] at h
    cases h
  | some p =>
    have h1 := List.find?_some e
    have h1 : p.1 = n := of_decide_eq_true h1
    have h2 := List.mem_of_find?_eq_some e
    show (n, p.2) ∈ g
    rw [← h1]
    exact h2
theorem no_ring {get : Str → List Str} {R : Str → Nat} (h : ∀ x m, m ∈ get x → R m < R x) {r : List Str} : ¬ M18.IsRing get r := fun hr => by
  have step : ∀ x ∈ r, ∃ m ∈ r, m ∈ get x := fun x hx => by
    have := M18.gone_ring hr (fun x hx => hx) x hx
    refine Decidable.byContradiction fun no => this (List.mem_filter.mpr ⟨hx, List.all_eq_true.mpr fun m hm => ?_⟩)
    simp only [Bool.not_eq_true', decide_eq_false_iff_not]
    exact fun ml => no ⟨m, ml, hm⟩
  have all : ∀ n, ∀ x ∈ r, R x < n → False := fun n => by
    induction n with
    | zero => intro x _ z; omega
    | succ n ih =>
      intro x hx hl
      obtain ⟨m, hm, hg⟩ := step x hx
      have := h x m hg
      exact ih m hm (by omega)
  cases r with
  | nil => exact hr.1 rfl
  | cons x r => exact all _ x (List.mem_cons_self ..) (Nat.lt_succ_self _)
theorem ring_none {y : Yard} (Y_ : YardOk y) {k : Nat} {pt : Y.Part} (hk : y[k]? = some pt) : ringAll (foldW [] (asksL y pt)) = none := by
  obtain ⟨R, hR⟩ := asks_rank Y_ hk
  have hg : ∀ p ∈ foldW [] (asksL y pt), ∀ m ∈ p.2, R m < R p.1 := foldW_mem (fun _ h => by cases h) hR
  cases e : ringAll (foldW [] (asksL y pt)) with
  | none => rfl
  | some r => exact absurd (M18.ringL_some _ [] trivial e) (no_ring fun x m hm => hg _ (getW_in hm) m hm)
/-! what repr tells stays short -/
structure Sm (d : PyData) (n : Nat) : Prop where
  sh : d.showable = true
  hd : d.hasDict = false
  cp : cpOk d = true
  b : bnd d ≤ n
structure SmA (ds : List PyData) (n : Nat) : Prop where
  sh : PyData.showableAll ds = true
  hd : PyData.hasDictAll ds = false
  cp : cpAll ds = true
  b : bndAll ds ≤ n
theorem Sm.mono {d : PyData} {n m : Nat} (h : Sm d n) (l : n ≤ m) : Sm d m := ⟨h.sh, h.hd, h.cp, Nat.le_trans h.b l⟩
theorem SmA.mono {d : List PyData} {n m : Nat} (h : SmA d n) (l : n ≤ m) : SmA d m := ⟨h.sh, h.hd, h.cp, Nat.le_trans h.b l⟩
theorem sm_str {z : Str} {k : Nat} (h : okT z k) : Sm (.str z) (10 * k + 2) := ⟨rfl, rfl, List.all_eq_true.mpr fun c hc => decide_eq_true (Nat.lt_trans (h.2 c hc) (by decide)), by
  have := h.1
  show 10 * z.length + 2 ≤ _
  omega⟩
theorem sm_int {i : Int} (h0 : 0 ≤ i) (h1 : i < 2 ^ 64) : Sm (.int i) 24 := ⟨by
  refine decide_eq_true ?_
  by_cases h : i.natAbs = 0
  · rw [h]; decide
  · rw [Nat.log2_lt h]
    have : i.natAbs < 2 ^ 64 := by omega
    exact Nat.lt_trans this (Nat.pow_lt_pow_right (by decide) (by decide)), rfl, rfl, toString_length_le (k := 24) h0 (by decide) (Int.lt_trans h1 (by decide))⟩
theorem small_len : ∀ n : Fin 129, (PyData.shown (.int ((n.val : Int) - 64))).length ≤ 24 := by decide +kernel
theorem small_log : ∀ n : Fin 129, ((n.val : Int) - 64).natAbs.log2 < 1920 := by decide +kernel
theorem sm_intw {i : Int} (h0 : -64 ≤ i) (h1 : i ≤ 64) : Sm (.int i) 24 := by
  have e : i = ((i + 64).toNat : Int) - 64 := by omega
  have h2 := small_len ⟨(i + 64).toNat, by omega⟩
  have h3 := small_log ⟨(i + 64).toNat, by omega⟩
  rw [e]
  exact ⟨decide_eq_true h3, rfl, rfl, h2⟩
theorem smA_nil : SmA [] 0 := ⟨rfl, rfl, rfl, Nat.le_refl _⟩
theorem smA_cons {d : PyData} {ds : List PyData} {a b : Nat} (h : Sm d a) (g : SmA ds b) : SmA (d :: ds) (a + 2 + b) := ⟨by
    show (d.showable && PyData.showableAll ds) = true
    rw [h.sh, g.sh] <;> rfl, by
    show (d.hasDict || PyData.hasDictAll ds) = false
    rw [h.hd, g.hd] <;> rfl, by
    show (cpOk d && cpAll ds) = true
    rw [h.cp, g.cp] <;> rfl, by
    have := h.b
    have := g.b
    show bnd d + 2 + bndAll ds ≤ _
    omega⟩
theorem sm_tup {ds : List PyData} {n : Nat} (h : SmA ds n) : Sm (.tuple ds) (n + 4) := ⟨h.sh, h.hd, h.cp, by
  have := h.b
  show bndAll ds + 4 ≤ _
  omega⟩
theorem sm_lst {ds : List PyData} {n : Nat} (h : SmA ds n) : Sm (.list ds) (n + 4) := ⟨h.sh, h.hd, h.cp, by
  have := h.b
  show bndAll ds + 4 ≤ _
  omega⟩
theorem smA_map {α : Type} {f : α → PyData} {n : Nat} : ∀ {l : List α}, (∀ x ∈ l, Sm (f x) n) → SmA (l.map f) ((n + 2) * l.length)
  | [], _ => smA_nil
  | x :: l, h => (smA_cons (h x (List.mem_cons_self ..)) (smA_map fun y hy => h y (List.mem_cons_of_mem _ hy))).mono (by
    rw [List.length_cons, Nat.mul_succ]
    omega)
theorem sm_wd {ps : List Str} (hp : ∀ z ∈ ps, nmS z) {w : Wd} (h : Y.wOk ps w) : Sm (wdD w) 240 := by
  have i : -64 ≤ w.2 ∧ w.2 ≤ 64 := by
    rcases h with ⟨_, h1, h2⟩ | ⟨_, h1, h2⟩
    · exact ⟨by omega, h2⟩
    · exact ⟨h1, h2⟩
  exact (sm_tup (smA_cons (sm_str (wOk.t h hp)) (smA_cons (sm_intw i.1 i.2) smA_nil))).mono (by omega)
theorem sm_trm {ps : List Str} (hp : ∀ z ∈ ps, nmS z) : ∀ t : Trm, t.ok ps → Sm t.d (1000 * tsz t)
  | .num n w, h => (sm_tup (smA_cons (sm_str (okT.of "number" (n := 8) (by decide +kernel))) (smA_cons (sm_int h.1 h.2.1) (smA_cons (sm_wd hp h.2.2) smA_nil)))).mono (by show _ ≤ 1000 * 1; omega)
  | .name x, h => (sm_tup (smA_cons (sm_str (okT.of "name" (n := 8) (by decide +kernel))) (smA_cons (sm_str (nmS.ok h)) smA_nil))).mono (by show _ ≤ 1000 * 1; omega)
  | .of_ u d, h => (sm_tup (smA_cons (sm_str (okT.of "of" (n := 8) (by decide +kernel))) (smA_cons (sm_str h.1.ok) (smA_cons (sm_str h.2.ok) smA_nil)))).mono (by show _ ≤ 1000 * 1; omega)
  | .at_ s t, h => (sm_tup (smA_cons (sm_str (okT.of "at" (n := 8) (by decide +kernel))) (smA_cons (sm_str h.1.ok) (smA_cons (sm_trm hp t h.2) smA_nil)))).mono (by show _ ≤ 1000 * (tsz t + 1); omega)
  | .not_ t, h => (sm_tup (smA_cons (sm_str (okT.of "not" (n := 8) (by decide +kernel))) (smA_cons (sm_trm hp t h) smA_nil))).mono (by show _ ≤ 1000 * (tsz t + 1); omega)
  | .two s a b, h => (sm_tup (smA_cons (sm_str (okT.of "two" (n := 8) (by decide +kernel))) (smA_cons (sm_str h.1) (smA_cons (sm_trm hp a h.2.1) (smA_cons (sm_trm hp b h.2.2) smA_nil))))).mono (by show _ ≤ 1000 * (tsz a + tsz b + 1); omega)
  | .pick a b c, h => (sm_tup (smA_cons (sm_str (okT.of "pick" (n := 8) (by decide +kernel))) (smA_cons (sm_trm hp a h.1) (smA_cons (sm_trm hp b h.2.1) (smA_cons (sm_trm hp c h.2.2) smA_nil))))).mono (by show _ ≤ 1000 * (tsz a + tsz b + tsz c + 1); omega)
  | .cut t low w, h => (sm_tup (smA_cons (sm_str (okT.of "cut" (n := 8) (by decide +kernel))) (smA_cons (sm_trm hp t h.1) (smA_cons (sm_int h.2.1 (Int.lt_of_le_of_lt h.2.2.1 (by decide))) (smA_cons (sm_wd hp h.2.2.2) smA_nil))))).mono (by show _ ≤ 1000 * (tsz t + 1); omega)
  | .join a b, h => (sm_tup (smA_cons (sm_str (okT.of "join" (n := 8) (by decide +kernel))) (smA_cons (sm_trm hp a h.1) (smA_cons (sm_trm hp b h.2) smA_nil)))).mono (by show _ ≤ 1000 * (tsz a + tsz b + 1); omega)
  | .fill t w, h => (sm_tup (smA_cons (sm_str (okT.of "fill" (n := 8) (by decide +kernel))) (smA_cons (sm_trm hp t h.1) (smA_cons (sm_wd hp h.2) smA_nil)))).mono (by show _ ≤ 1000 * (tsz t + 1); omega)
theorem sm_repr {H : Hp} {Q : VK} {a : Addr} {d : PyData} {n : Nat} (hd : Dp K H (.ref a) d) (dp : d.depth ≤ 50) (s : Sm d n) (hn : n ≤ 16000000) (q : Q (.str d.shown) H) : rReprD K [.ref a] H Q :=
  ⟨a, d, rfl, hd, s.sh, s.hd, dp, Nat.le_trans (shown_bnd d s.cp) (Nat.le_trans s.b (Nat.le_trans hn (by decide))), q⟩
/-! widths -/
def wF (pt : Y.Part) (ms : List Int) (r : Y.Row) : Option (Str × Int) := (rww r).map fun w => (rx r, wv (kvN pt.params ms) w)
theorem widK_snoc (l : List (Str × Int)) (e : Str × Int) : widK (l ++ [e]) = putK (widK l) (Sum.inr e.1) (.int e.2) := by
  unfold widK
  rw [List.foldl_append] <;> rfl
theorem widK_len (l : List (Str × Int)) : (widK l).length ≤ l.length := by
  have g : ∀ (l : List (Str × Int)) (acc : List (Key × V)), (l.foldl (fun kvs (e : Str × Int) => putK kvs (Sum.inr e.1) (.int e.2)) acc).length ≤ acc.length + l.length := by
    intro l
    induction l with
    | nil => intro acc; exact Nat.le_refl _
    | cons e l ih =>
      intro acc
      have h1 := ih (putK acc (Sum.inr e.1) (.int e.2))
      have h2 := length_putK acc (Sum.inr e.1) (.int e.2)
      rw [List.foldl_cons, List.length_cons]
      omega
  have := g l []
  unfold widK
  rw [List.length_nil, Nat.zero_add] at this
  exact this
theorem lu_in (r : Y.Row) : inV (.str (rk r)) [.str (Str.ofString "let"), .str (Str.ofString "use")] = !(rww r).isSome := by
  cases r
  · show inV (.str (Str.ofString "in")) _ = false; decide +kernel
  · show inV (.str (Str.ofString "out")) _ = false; decide +kernel
  · show inV (.str (Str.ofString "wire")) _ = false; decide +kernel
  · show inV (.str (Str.ofString "rest")) _ = false; decide +kernel
  · show inV (.str (Str.ofString "let")) _ = true; decide +kernel
  · show inV (.str (Str.ofString "use")) _ = true; decide +kernel
  · show inV (.str (Str.ofString "table")) _ = false; decide +kernel
  · show inV (.str (Str.ofString "memory")) _ = false; decide +kernel
theorem rww_ok {ps : List Str} {r : Y.Row} (h : rowOk ps r) {w : Wd} (hw : rww r = some w) : nmS (rx r) ∧ wOk3 ps w ∧ ∃ more, rmore r = wdD w :: more := by
  cases r with
  | inn x w' => cases hw; exact ⟨h.1, h.2, _, rfl⟩
  | out x w' => cases hw; exact ⟨h.1, h.2, _, rfl⟩
  | wire x w' => cases hw; exact ⟨h.1, h.2, _, rfl⟩
  | rest x w' n t => cases hw; exact ⟨h.1, h.2.1, _, rfl⟩
  | tab x w' ns => cases hw; exact ⟨h.1, h.2.1, _, rfl⟩
  | mem x w' n a b c => cases hw; exact ⟨h.1, h.2.1, _, rfl⟩
  | _ => cases hw
theorem wv3 {pt : Y.Part} {ms : List Int} (ok : msOk pt ms) (pu : PU pt) {w : Wd} (h : wOk3 pt.params w) : wKn (kvN pt.params ms) w ∧ (1 ≤ wv (kvN pt.params ms) w ∧ wv (kvN pt.params ms) w ≤ 64) ∧ ∃ o : Option V, valV (kvN pt.params ms) (Sum.inr w.1) = o ∧ ∃ i : Int, o.getD (.int 0) = .int i ∧ w.2 + i = wv (kvN pt.params ms) w := by
  rcases h with ⟨h1, h2, h3⟩ | ⟨h1, h2, h3⟩
  · have e : wv (kvN pt.params ms) w = w.2 := by
      unfold wv
      rw [if_pos h1]
    refine ⟨⟨fun n => absurd h1 n, by omega, by omega⟩, by rw [e]; exact ⟨h2, h3⟩, none, kvN_none (fun hm => (pu.pn _ hm).ne h1), 0, rfl, by rw [e]; omega⟩
  · obtain ⟨i, hi, i1, i2⟩ := kvN_get ok.1.symm ok.2 h1
    have e : wv (kvN pt.params ms) w = i + w.2 := by
      unfold wv
      rw [if_neg (pu.pn _ h1).ne, hi]
    exact ⟨⟨fun _ => ⟨i, hi, by omega, by omega⟩, by omega, by omega⟩, by rw [e]; omega, _, hi, i, rfl, by rw [e]; omega⟩
theorem fm_snoc {pt : Y.Part} {ms : List Int} {j : Nat} {r : Y.Row} (h : pt.rows[j]? = some r) : (pt.rows.take (j + 1)).filterMap (wF pt ms) = (pt.rows.take j).filterMap (wF pt ms) ++ (wF pt ms r).toList := by
  rw [take_snoc h, List.filterMap_append]
  congr 1
theorem fm_len {pt : Y.Part} {ms : List Int} (j : Nat) : (widK ((pt.rows.take j).filterMap (wF pt ms))).length ≤ pt.rows.length := by
  have h1 := widK_len ((pt.rows.take j).filterMap (wF pt ms))
  have h2 : ((pt.rows.take j).filterMap (wF pt ms)).length ≤ (pt.rows.take j).length := List.length_filterMap_le _ _
  rw [List.length_take] at h2
  omega
theorem vr_widths_in (vs H Q E) (h : sp_widths_in K vs H Q E) : (rd_widths_in K) { nx := fun _ H' => Q .non H', rt := Q } (start ["part", "numbers", "_", "params", "rows", "by_param", "row"] vs) H := by
  obtain ⟨v, tn, pt, ms, rfl, pa, RO, gtn, mok, q⟩ := h
  unfold rd_widths_in
  have PP := RO.pu
  obtain ⟨bu, pa_, ra, o, rs, rfl, hbu, hpa, od, hra, trs⟩ := id pa
  have lrs := trs.len
  rw [List.length_map] at lrs
  have lr := PP.rl
  walk_at "zz"
  refine z_g3 (st_of hbu) ?_
  walk_at "zz"
  refine z_dzip ?_
  walk_at "zz"
  refine ⟨true, true, pa_, tn, pt.params, ms.map V.int, rfl, fst_of hpa, st_of gtn, fun bp hbp => ?_⟩
  have e1 := Ex.new (o := .dK (kvN pt.params ms)) hbp
  have gbp : upd H bp (.dK (kvN pt.params ms)) bp = some (.dK (kvN pt.params ms)) := upd_same
  show gName 5 (V.ref bp) _ (upd H bp (.dK (kvN pt.params ms))) _
  generalize upd H bp (.dK (kvN pt.params ms)) = H1 at e1 gbp ⊢
  have hra1 := e1 _ _ hra
  have trs1 := trs.ex e1
  walk_at "zz"
  refine z_DT (st_of hra1) (fun D i H2 => Ex H1 H2 ∧ H2 D = some (.dK (widK ((pt.rows.take i).filterMap (wF pt ms))))) (fun D hD => ⟨Ex.new hD, upd_same⟩) (fun D i H2 hD p => st_of (p.1 _ _ hra1)) (fun D i x H2 hD hi hx p => ?_) (fun D H2 hD p => ?_)
  · obtain ⟨e, g⟩ := p
    obtain ⟨dd_, hdd, tdd⟩ := trs1.get hx
    rw [List.getElem?_map] at hdd
    obtain ⟨r, hr, rfl⟩ := Option.map_eq_some_iff.mp hdd
    have okr := RO.ok r (List.mem_of_getElem? hr)
    obtain ⟨b, rest, rfl, hb, trest⟩ := tu_row (tdd.ex e)
    have sn := fm_snoc (ms := ms) hr
    have ln := fm_len (pt := pt) (ms := ms) i
    refine z_gname ⟨rfl, ?_⟩
    walk_at "zz"
    refine z_ixT (st_of hb) (show atI _ ((0 : Nat) : Int) = _ from atI_nat rfl) ?_
    walk_at "zz"
    refine ⟨szl (by simp), fun c1 hc1 => ?_⟩
    have e3 := Ex.new (o := .tup [V.str (Str.ofString "let"), V.str (Str.ofString "use")]) hc1
    refine z_inT (st_of upd_same) rfl rfl ?_
    rw [show (if true = true then !inV (.str (rk r)) [.str (Str.ofString "let"), .str (Str.ofString "use")] else inV (.str (rk r)) [.str (Str.ofString "let"), .str (Str.ofString "use")]) = (rww r).isSome by rw [if_pos rfl, lu_in, Bool.not_not]]
    have g3 := e3 _ _ g
    have e13 := e.trans e3
    have hb3 := e3 _ _ hb
    have trest3 := trest.ex e3
    generalize upd H2 c1 _ = H3 at e3 g3 e13 hb3 trest3 ⊢
    walk_at "zz"
    cases hw : rww r with
    | none =>
      refine ite_f ⟨e13, ?_⟩
      have : wF pt ms r = none := by unfold wF; rw [hw] <;> rfl
      rw [sn, this, show (none : Option (Str × Int)).toList = [] from rfl, List.append_nil]
      exact g3
    | some w =>
      obtain ⟨nmx, ok3, more, hm⟩ := rww_ok okr hw
      rw [hm] at trest3
      obtain ⟨kn, _, _⟩ := wv3 mok PP ok3
      cases trest3 with
      | cons tw _ =>
        refine ite_t ?_
        walk_at "zz"
        refine z_ixT (st_of hb3) (show atI _ ((1 : Nat) : Int) = _ from atI_nat rfl) ?_
        walk_at "zz"
        refine z_ixT (st_of hb3) (show atI _ ((2 : Nat) : Int) = _ from atI_nat rfl) ?_
        walk_at "zz"
        refine ⟨_, bp, w, _, rfl, tw, e13 _ _ gbp, kn, fun H4 e4 => ?_⟩
        have : wF pt ms r = some (rx r, wv (kvN pt.params ms) w) := by unfold wF; rw [hw] <;> rfl
        refine ⟨_, Sum.inr (rx r), rfl, e4 _ _ g3, szlt (by omega), (e13.trans e4).mut hD, ?_⟩
        rw [upd_same, sn, this, show (some (rx r, wv (kvN pt.params ms) w)).toList = [(rx r, wv (kvN pt.params ms) w)] from rfl, widK_snoc]
  obtain ⟨e, g⟩ := p
  rw [lrs, List.take_length] at g
  exact q D H2 (ex_none e1 hD) (e1.trans e) g
theorem z_tyd {H : Hp} {a : Addr} {kvs : List (Key × V)} {R : Prop} (h : H a = some (.dK kvs)) (q : R) : tyV K "dict" (.ref a) H ∧ R := ⟨.inr (.inr (.inl ⟨rfl, .inl ⟨kvs, h⟩⟩)), q⟩
theorem z_dclear {H : Hp} {Q : VK} {a : Addr} {kvs : List (Key × V)} (h : H a = some (.dK kvs)) (q : Q .non (upd H a (.dK []))) : rDClear (.ref a) [] H Q := ⟨a, kvs, rfl, rfl, h, q⟩
def dsI (kvs : List (Key × V)) : List PyData := kvs.map fun kv => match kv.2 with
  | .int i => .int i
  | _ => .none
structure WidOk (kvs : List (Key × V)) : Prop where
  ok : ∀ kv ∈ kvs, ∃ (x : Str) (i : Int), kv = (Sum.inr x, .int i) ∧ okT x 20 ∧ 0 ≤ i ∧ i ≤ 200
  len : kvs.length ≤ 40
theorem putK_mem {P : Key × V → Prop} {kvs : List (Key × V)} {k : Key} {v : V} (h : ∀ p ∈ kvs, P p) (hn : P (k, v)) : ∀ p ∈ putK kvs k v, P p := fun p hp => by
  unfold putK at hp
  split at hp
  · obtain ⟨x, hx, rfl⟩ := List.mem_map.mp hp
    by_cases z : x.1 = k
    · rw [if_pos z, z]
      exact hn
    · rw [if_neg z]
      exact h x hx
  · rcases List.mem_append.mp hp with hp | hp
    · exact h p hp
    · rw [List.mem_singleton.mp hp]
      exact hn
theorem widK_mem {P : Key × V → Prop} {l : List (Str × Int)} (h : ∀ e ∈ l, P (Sum.inr e.1, .int e.2)) : ∀ p ∈ widK l, P p := by
  have g : ∀ (l : List (Str × Int)) (acc : List (Key × V)), (∀ e ∈ l, P (Sum.inr e.1, .int e.2)) → (∀ p ∈ acc, P p) → ∀ p ∈ l.foldl (fun kvs (e : Str × Int) => putK kvs (Sum.inr e.1) (.int e.2)) acc, P p := by
    intro l
    induction l with
    | nil => intro acc _ h; exact h
    | cons e l ih =>
      intro acc hl ha
      exact ih _ (fun x hx => hl x (List.mem_cons_of_mem _ hx)) (putK_mem ha (hl e (List.mem_cons_self ..)))
  exact g l [] h fun _ h => by cases h
theorem wid_ok {pt : Y.Part} {ms : List Int} (RO : RowsOk pt) (mok : msOk pt ms) : WidOk (widK (widL pt ms)) := by
  refine ⟨widK_mem fun e he => ?_, ?_⟩
  · obtain ⟨r, hr, he⟩ := List.mem_filterMap.mp he
    obtain ⟨w, hw, rfl⟩ := Option.map_eq_some_iff.mp he
    obtain ⟨nmx, ok3, _⟩ := rww_ok (RO.ok r hr) hw
    obtain ⟨_, b, _⟩ := wv3 mok RO.pu ok3
    exact ⟨_, _, rfl, nmx.ok, by omega, by omega⟩
  · have h1 := fm_len (pt := pt) (ms := ms) pt.rows.length
    rw [List.take_length] at h1
    have h2 := RO.pu.rl
    show (widK (pt.rows.filterMap (wF pt ms))).length ≤ 40
    omega
theorem wid_dp {H : Hp} : ∀ {kvs : List (Key × V)}, (∀ kv ∈ kvs, ∃ (x : Str) (i : Int), kv = (Sum.inr x, .int i) ∧ okT x 20 ∧ 0 ≤ i ∧ i ≤ 200) → DpAll K H (kvs.map (·.2)) (dsI kvs) ∧ PyData.hasDictAll (dsI kvs) = false ∧ PyData.showableKv ((kvs.map fun p => keyD p.1).zip (dsI kvs)) = true ∧ PyData.depthKv ((kvs.map fun p => keyD p.1).zip (dsI kvs)) = 0 ∧ cpKv ((kvs.map fun p => keyD p.1).zip (dsI kvs)) = true ∧ bndKv ((kvs.map fun p => keyD p.1).zip (dsI kvs)) ≤ 300 * kvs.length
  | [], _ => ⟨.nil, rfl, rfl, rfl, rfl, Nat.le_refl _⟩
  | kv :: kvs, h => by
    obtain ⟨h1, h2, h3, h4, h5, h6⟩ := wid_dp (H := H) (kvs := kvs) fun p hp => h p (List.mem_cons_of_mem _ hp)
    obtain ⟨x, i, rfl, ox, i0, i1⟩ := h kv (List.mem_cons_self ..)
    have si := sm_int i0 (Int.lt_of_le_of_lt i1 (by decide))
    have sx := sm_str ox
    refine ⟨.cons (.int i) h1, h2, ?_, ?_, ?_, ?_⟩
    · show ((PyData.int i).showable && _) = true
      rw [si.sh]
      exact h3
    · show max (max 0 0) (PyData.depthKv ((kvs.map fun p => keyD p.1).zip (dsI kvs))) = 0
      rw [h4] <;> rfl
    · show (cpOk (.str x) && cpOk (.int i) && _) = true
      rw [sx.cp, si.cp]
      exact h5
    · have := sx.b
      have := si.b
      rw [List.length_cons]
      show bnd (.str x) + bnd (.int i) + 4 + bndKv ((kvs.map fun p => keyD p.1).zip (dsI kvs)) ≤ _
      omega
theorem wid_repr {H : Hp} {Q : VK} {a : Addr} {kvs : List (Key × V)} (ha : Rd H a (.dK kvs)) (ok : WidOk kvs) (q : Q (.str (dictD kvs (dsI kvs)).shown) H) : rReprK K [.ref a] H Q := by
  obtain ⟨h1, h2, h3, h4, h5, h6⟩ := wid_dp (K := K) (H := H) ok.ok
  refine ⟨a, kvs, dsI kvs, rfl, ha, h1, h3, h2, ?_, ?_, q⟩
  · show PyData.depthKv _ + 1 ≤ 50
    rw [h4]; decide
  · refine Nat.le_trans (shown_bnd (dictD kvs (dsI kvs)) h5) ?_
    show bndKv _ + 4 ≤ sizeLine
    have := ok.len
    exact Nat.le_trans (show _ ≤ 13000 by omega) (by decide)
theorem vr_L_widths_right (vs H Q E) (h : sp_L_widths_right K vs H Q E) : (rd_L_widths_right K) { nx := fun _ H' => Q .non H', rt := Q } (start ["_law_part_here", "_law_numbers_here", "_law_known", "_law_due", "_law_row", "_law_found"] vs) H := by
  obtain ⟨v, tn, pt, ms, rfl, pa, RO, gtn, mok, q⟩ := h
  unfold rd_L_widths_right
  have PP := RO.pu
  have WO := wid_ok RO mok
  obtain ⟨bu, pa_, ra, o, rs, rfl, hbu, hpa, od, hra, trs⟩ := id pa
  have lrs := trs.len
  rw [List.length_map] at lrs
  have lr := PP.rl
  refine z_seq (z_asg (z_dzip ?_))
  walk_at "zz"
  refine z_ixT (st_of hbu) (show atI _ ((1 : Nat) : Int) = _ from atI_nat rfl) ?_
  walk_at "zz"
  refine ⟨true, true, pa_, tn, pt.params, ms.map V.int, rfl, fst_of hpa, st_of gtn, fun bp hbp => ?_⟩
  have e1 := Ex.new (o := .dK (kvN pt.params ms)) hbp
  have gbp : upd H bp (.dK (kvN pt.params ms)) bp = some (.dK (kvN pt.params ms)) := upd_same
  show gName 2 (V.ref bp) _ (upd H bp (.dK (kvN pt.params ms))) _
  generalize upd H bp (.dK (kvN pt.params ms)) = H1 at e1 gbp ⊢
  walk_at "zz"
  refine z_dnew fun d hd => ?_
  have e2 := Ex.new (o := .dK []) hd
  have gd : upd H1 d (.dK []) d = some (.dK []) := upd_same
  have nbd : bp ≠ d := some_ne gbp hd
  have gbp2 := e2 _ _ gbp
  have e12 := e1.trans e2
  have hd0 := ex_none e1 hd
  generalize upd H1 d (.dK []) = H2 at e2 gd gbp2 e12 ⊢
  have hra2 := e12 _ _ hra
  have trs2 := trs.ex e12
  have hbu2 := e12 _ _ hbu
  walk_at "zz"
  refine z_ixT (st_of hbu2) (show atI _ ((2 : Nat) : Int) = _ from atI_nat rfl) ?_
  walk_at "zz"
  refine z_FT (st_of hra2) (fun i σ' H' => ∃ (y4 y5 : Option V), σ' = [some (.ref bu), some (.ref tn), some (.ref bp), some (.ref d), y4, y5] ∧ H' d = some (.dK (widK ((pt.rows.take i).filterMap (wF pt ms)))) ∧ But [d] H2 H') ⟨_, _, rfl, gd, But.refl⟩ (fun i σ' H' hi h => ?_) (fun i x σ' H' hi hx h => ?_) (fun σ' H' h => ?_)
  · obtain ⟨_, _, _, _, b⟩ := h
    exact st_of (b _ _ (by simp [some_ne2 hra2 gd]) hra2)
  · obtain ⟨y4, y5, rfl, gi, bi⟩ := h
    obtain ⟨dd_, hdd, tdd⟩ := trs2.get hx
    rw [List.getElem?_map] at hdd
    obtain ⟨r, hr, rfl⟩ := Option.map_eq_some_iff.mp hdd
    have okr := RO.ok r (List.mem_of_getElem? hr)
    obtain ⟨b, rest, rfl, hb, trest⟩ := tu_row (tdd.mono (tk_d bi gd))
    have sn := fm_snoc (ms := ms) hr
    have ln := fm_len (pt := pt) (ms := ms) i
    walk_at "zz"
    refine z_ixT (st_of hb) (show atI _ ((0 : Nat) : Int) = _ from atI_nat rfl) ?_
    walk_at "zz"
    refine ⟨szl (by simp), fun c1 hc1 => ?_⟩
    have e3 := Ex.new (o := .tup [V.str (Str.ofString "let"), V.str (Str.ofString "use")]) hc1
    refine z_inT (st_of upd_same) rfl rfl ?_
    rw [show (if true = true then !inV (.str (rk r)) [.str (Str.ofString "let"), .str (Str.ofString "use")] else inV (.str (rk r)) [.str (Str.ofString "let"), .str (Str.ofString "use")]) = (rww r).isSome by rw [if_pos rfl, lu_in, Bool.not_not]]
    have g3 := e3 _ _ gi
    have b3 := bi.trans (But.ex e3)
    have hb3 := e3 _ _ hb
    have trest3 := trest.ex e3
    generalize upd H' c1 _ = H3 at e3 g3 b3 hb3 trest3 ⊢
    walk_at "zz"
    cases hw : rww r with
    | none =>
      refine ite_f ?_
      walk_at "zz"
      have : wF pt ms r = none := by unfold wF; rw [hw] <;> rfl
      exact ⟨_, _, rfl, by rw [sn, this, show (none : Option (Str × Int)).toList = [] from rfl, List.append_nil]; exact g3, b3⟩
    | some w =>
      obtain ⟨nmx, ok3, more, hm⟩ := rww_ok okr hw
      rw [hm] at trest3
      obtain ⟨kn, bw, o_, ho, ii, hii, hsum⟩ := wv3 mok PP ok3
      cases trest3 with
      | cons tw _ =>
        obtain ⟨b7, x7, y7_, rfl, hb7, tx7, ty7⟩ := tu2 tw
        cases tu_str tx7
        cases tu_int ty7
        refine ite_t ?_
        walk_at "zz"
        refine z_ixT (st_of hb3) (show atI _ ((2 : Nat) : Int) = _ from atI_nat rfl) ?_
        walk_at "zz"
        refine z_ixT (st_of hb7) (show atI _ ((1 : Nat) : Int) = _ from atI_nat rfl) ?_
        walk_at "zz"
        have gbp3 := b3 _ _ (by simp [nbd]) gbp2
        refine ⟨bp, rfl, .inl ⟨_, .inl gbp3⟩, ?_⟩
        walk_at "zz"
        refine z_ixT (st_of hb3) (show atI _ ((2 : Nat) : Int) = _ from atI_nat rfl) ?_
        walk_at "zz"
        refine z_ixT (st_of hb7) (show atI _ ((0 : Nat) : Int) = _ from atI_nat rfl) ?_
        walk_at "zz"
        refine ⟨o_, by rw [← ho]; exact DGet.k (k := Sum.inr w.1) gbp3, ?_⟩
        rw [hii]
        walk_at "zz"
        rw [hsum]
        refine z_ixT (st_of hb3) (show atI _ ((1 : Nat) : Int) = _ from atI_nat rfl) ?_
        refine ⟨d, _, rfl, DPut.k (k := Sum.inr (rx r)) g3 (szlt (by omega)), ?_⟩
        have : wF pt ms r = some (rx r, wv (kvN pt.params ms) w) := by unfold wF; rw [hw] <;> rfl
        refine ⟨_, _, rfl, ?_, b3.trans (But.put (List.mem_singleton.mpr rfl))⟩
        rw [upd_same, sn, this, show (some (rx r, wv (kvN pt.params ms) w)).toList = [(rx r, wv (kvN pt.params ms) w)] from rfl, widK_snoc]
  obtain ⟨y4, y5, rfl, gi, bi⟩ := h
  rw [lrs, List.take_length] at gi
  have gi : H' d = some (.dK (widK (widL pt ms))) := gi
  have eH : Ex H H' := ((But.ex e12 (B := [d])).trans bi).exOf fun p hp => by rw [List.mem_singleton.mp hp]; exact hd0
  walk_at "zz"
  refine ⟨_, tn, pt, ms, rfl, pa.ex eH, RO, eH _ _ gtn, mok, fun f H5 hf e5 gf => ?_⟩
  walk_at "zz"
  refine z_isi (T := "dict") (U := "dict") (b := true) (.base (.dK gf)) (kit_ty (by decide +kernel)) (z_trub (ite_f ?_))
  walk_at "zz"
  refine wid_repr (.inl gf) WO ?_
  walk_at "zz"
  refine wid_repr (.inl (e5 _ _ gi)) WO ?_
  walk_at "zz"
  rw [decide_eq_true rfl]
  refine ite_f ?_
  walk_at "zz"
  refine z_tyd gf (z_dclear gf ?_)
  have eH5 := eH.trans e5
  have f0 := ex_none eH hf
  have e6 : Ex H (upd H5 f (.dK [])) := ((But.ex eH5 (B := [f])).trans (But.put (List.mem_singleton.mpr rfl))).exOf fun p hp => by rw [List.mem_singleton.mp hp]; exact f0
  have ndf : d ≠ f := some_ne gi hf
  have gd6 : upd H5 f (.dK []) d = some (.dK (widK (widL pt ms))) := by rw [upd_ne ndf]; exact e5 _ _ gi
  generalize upd H5 f (.dK []) = H6 at e6 gd6 ⊢
  walk_at "zz"
  refine ⟨_, tn, pt, ms, rfl, pa.ex e6, RO, e6 _ _ gtn, mok, fun f2 H7 hf2 e7 gf2 => ?_⟩
  walk_at "zz"
  refine wid_repr (.inl gf2) WO ?_
  walk_at "zz"
  refine wid_repr (.inl (e7 _ _ gd6)) WO ?_
  walk_at "zz"
  rw [decide_eq_true rfl]
  exact q.go (e6.trans e7)
theorem no_L_kids_right : ∀ vs H Q E, ¬ sp_L_kids_right K 0 vs H Q E := fun vs H Q E h => by
  obtain ⟨_, _, _, _, _, h, _⟩ := h
  omega
theorem kids_len (t : Trm) : t.kids.length ≤ 3 := by cases t <;> simp [Trm.kids]
theorem kids_sm {ps : List Str} (hp : ∀ z ∈ ps, nmS z) {t : Trm} (ok : t.ok ps) (hd : t.deep ≤ 5) : Sm (.list (t.kids.map Trm.d)) 3100000 ∧ (PyData.list (t.kids.map Trm.d)).depth ≤ 50 := by
  have l3 := kids_len t
  have hk : ∀ k ∈ t.kids, Sm k.d 1024000 := fun k hk => by
    have h1 := tsz_le k
    have h2 := kid_deep hk
    have h3 : 4 ^ k.deep ≤ 4 ^ 5 := Nat.pow_le_pow_right (by decide) (by omega)
    have h4 : (4 : Nat) ^ 5 = 1024 := by decide
    exact (sm_trm hp k (kid_ok ok hk)).mono (by omega)
  refine ⟨(sm_lst (smA_map hk)).mono ?_, ?_⟩
  · have : (1024000 + 2) * t.kids.length ≤ (1024000 + 2) * 3 := Nat.mul_le_mul_left _ l3
    omega
  · have c := cl_tu (ds := t.kids.map Trm.d) (n := 10) fun d hd => by
      obtain ⟨k, hk, rfl⟩ := List.mem_map.mp hd
      have h1 := trm_cl hp k (kid_ok ok hk)
      have h2 := kid_deep hk
      exact ⟨h1.1, by omega⟩
    have h1 : (PyData.list (t.kids.map Trm.d)).depth ≤ 11 := c.2
    omega
theorem vr_L_kids_right (n : Nat) (vs H Q E) (h : sp_L_kids_right K (n + 1) vs H Q E) : (rd_L_kids_right K (sp_L_kids_right K n)) { nx := fun _ H' => Q .non H', rt := Q } (start ["_law_term_here", "_law_due", "_law_found", "_law_kid"] vs) H := by
  obtain ⟨v, t, ps, rfl, tv, ⟨ok, hps, h5, hd⟩, q⟩ := h
  unfold rd_L_kids_right
  obtain ⟨S1, D1⟩ := kids_sm hps ok h5
  have l3 := kids_len t
  walk_at "zz"
  refine ⟨v, t, rfl, tv, fun d H1 us hd1 e1 gd tus => ?_⟩
  walk_at "zz"
  refine ⟨v, t, rfl, tv.ex e1, fun f H2 us2 hf2 e2 gf tus2 => ?_⟩
  walk_at "zz"
  refine z_isi (T := "list") (U := "list") (b := true) (ty_lst (sq_of gf)) (kit_ty (by decide +kernel)) (z_trub (ite_f ?_))
  walk_at "zz"
  refine sm_repr (.lst (sq_of gf) tus2.dp) D1 S1 (by decide) ?_
  walk_at "zz"
  have gd2 := e2 _ _ gd
  refine sm_repr (.lst (sq_of gd2) (tus.ex e2).dp) D1 S1 (by decide) ?_
  walk_at "zz"
  rw [decide_eq_true rfl]
  refine ite_f ?_
  walk_at "zz"
  refine z_tyl (sq_of gf) ?_
  walk_at "zz"
  have lus2 := tus2.len
  rw [List.length_map] at lus2
  refine z_rapp gf (szlt (by omega)) ?_
  have e12 := e1.trans e2
  have f0 := ex_none e1 hf2
  have ndf : d ≠ f := some_ne gd hf2
  have e3 : Ex H (upd H2 f (.lst (us2 ++ [v]))) := ((But.ex e12 (B := [f])).trans (But.put (List.mem_singleton.mpr rfl))).exOf fun p hp => by rw [List.mem_singleton.mp hp]; exact f0
  have gd3 : upd H2 f (.lst (us2 ++ [v])) d = some (.lst us) := by rw [upd_ne ndf]; exact gd2
  have tk3 : Tk H2 (upd H2 f (.lst (us2 ++ [v]))) := .putL gf
  have tus3 := (tus.ex e2).mono tk3
  generalize upd H2 f _ = H3 at e3 gd3 tus3 ⊢
  walk_at "zz"
  refine ⟨v, t, rfl, tv.ex e3, fun f4 H4 us4 hf4 e4 gf4 tus4 => ?_⟩
  walk_at "zz"
  refine sm_repr (.lst (sq_of gf4) tus4.dp) D1 S1 (by decide) ?_
  walk_at "zz"
  have gd4 := e4 _ _ gd3
  have tusd := tus3.ex e4
  refine sm_repr (.lst (sq_of gd4) tusd.dp) D1 S1 (by decide) ?_
  walk_at "zz"
  rw [decide_eq_true rfl]
  refine ite_t ?_
  have e34 := e3.trans e4
  walk_at "zz"
  have lus := tusd.len
  rw [List.length_map] at lus
  refine z_CLg (sq_of gd4) (fun D j H' => Ex H4 H' ∧ H' D = some (.lst ((List.replicate j true).map V.bl))) (fun D hD => ⟨Ex.new hD, upd_same⟩) (fun D j H' hD p => sq_of (p.1 _ _ gd4)) (fun D j x H' hD hj hx p => ?_) (fun D H' hD p => ?_)
  · obtain ⟨e, g⟩ := p
    obtain ⟨dk, hdk, tdk⟩ := tusd.get hx
    rw [List.getElem?_map] at hdk
    obtain ⟨kid, hkid, rfl⟩ := Option.map_eq_some_iff.mp hdk
    have hm := List.mem_of_getElem? hkid
    have kd := kid_deep hm
    refine z_gname ⟨rfl, ?_⟩
    walk_at "zz"
    refine ⟨x, kid, ps, rfl, tdk.ex e, ⟨kid_ok ok hm, hps, by omega, by omega⟩, fun H5 e5 => ?_⟩
    refine ⟨_, e5 _ _ g, szlt (by rw [List.length_map, List.length_replicate]; omega), (e.trans e5).mut hD, ?_⟩
    rw [upd_same, List.replicate_succ', List.map_append] <;> rfl
  obtain ⟨e, g⟩ := p
  refine ⟨D, List.replicate us.length true, rfl, sq_of g, ?_⟩
  rw [show (List.replicate us.length true).all id = true from List.all_eq_true.mpr fun b hb => (List.mem_replicate.mp hb).2]
  exact q.go (e34.trans e)
/-! how much is asked -/
theorem names3 : ∀ t : Trm, 3 * t.names.length ≤ 3 ^ t.deep
  | .num .. => by show 3 * 0 ≤ 3; decide
  | .name _ => by show 3 * 1 ≤ 3; decide
  | .of_ .. => by show 3 * 1 ≤ 3; decide
  | .at_ _ t | .not_ t | .cut t .. | .fill t _ => by
    have ih := names3 t
    have : 3 ^ (t.deep + 1) = 3 ^ t.deep * 3 := Nat.pow_succ 3 _
    show 3 * t.names.length ≤ 3 ^ (t.deep + 1)
    omega
  | .two _ a b | .join a b => by
    have iha := names3 a
    have ihb := names3 b
    have e : 3 ^ (max a.deep b.deep + 1) = 3 ^ max a.deep b.deep * 3 := Nat.pow_succ 3 _
    have ha : 3 ^ a.deep ≤ 3 ^ max a.deep b.deep := Nat.pow_le_pow_right (by decide) (Nat.le_max_left ..)
    have hb : 3 ^ b.deep ≤ 3 ^ max a.deep b.deep := Nat.pow_le_pow_right (by decide) (Nat.le_max_right ..)
    show 3 * (a.names ++ b.names).length ≤ 3 ^ (max a.deep b.deep + 1)
    rw [List.length_append]
    omega
  | .pick a b c => by
    have iha := names3 a
    have ihb := names3 b
    have ihc := names3 c
    have e : 3 ^ (max a.deep (max b.deep c.deep) + 1) = 3 ^ max a.deep (max b.deep c.deep) * 3 := Nat.pow_succ 3 _
    have ha : 3 ^ a.deep ≤ 3 ^ max a.deep (max b.deep c.deep) := Nat.pow_le_pow_right (by decide) (by omega)
    have hb : 3 ^ b.deep ≤ 3 ^ max a.deep (max b.deep c.deep) := Nat.pow_le_pow_right (by decide) (by omega)
    have hc : 3 ^ c.deep ≤ 3 ^ max a.deep (max b.deep c.deep) := Nat.pow_le_pow_right (by decide) (by omega)
    show 3 * (a.names ++ b.names ++ c.names).length ≤ 3 ^ (max a.deep (max b.deep c.deep) + 1)
    rw [List.length_append, List.length_append]
    omega
theorem ask_ok {ps : List Str} {t : Trm} (ok : t.ok ps) (hd : t.deep ≤ 4) {path : Str} (op : okT path 63) : (askL path t).length ≤ 27 ∧ ∀ z ∈ askL path t, okT z 104 := by
  refine ⟨?_, fun z hz => ?_⟩
  · have h1 := dd_len (t.names.map fun x => path ++ x) []
    have h2 := names3 t
    have h3 : 3 ^ t.deep ≤ 3 ^ 4 := Nat.pow_le_pow_right (by decide) hd
    have h4 : (3 : Nat) ^ 4 = 81 := by decide
    rw [List.length_map, List.length_nil] at h1
    show (dd [] (t.names.map fun x => path ++ x)).length ≤ 27
    omega
  · obtain ⟨a, ha, rfl⟩ := ask_mem hz
    exact (op.app (names_ok ok a ha)).mono (by decide)
def isLet : Y.Row → Bool
  | .let_ .. => true
  | _ => false
theorem flat_len2 {α β : Type} {f : α → List β} {p q : α → Bool} {m : Nat} : ∀ {l : List α}, (∀ a ∈ l, (f a).length ≤ (if p a = true then 1 else 0) + (if q a = true then m else 0)) → (l.flatMap f).length ≤ l.countP p + l.countP q * m
  | [], _ => Nat.zero_le _
  | a :: l, h => by
    have ih := flat_len2 (l := l) fun x hx => h x (List.mem_cons_of_mem _ hx)
    have h1 := h a (List.mem_cons_self ..)
    rw [List.flatMap_cons, List.length_append]
    have e1 : (a :: l).countP p = l.countP p + if p a = true then 1 else 0 := List.countP_cons ..
    have e2 : (a :: l).countP q * m = l.countP q * m + if q a = true then m else 0 := by
      rw [show (a :: l).countP q = l.countP q + if q a = true then 1 else 0 from List.countP_cons .., Nat.add_mul]
      split
      · rw [Nat.one_mul]
      · rw [Nat.zero_mul]
    rw [e1, e2]
    omega
theorem st_lets : ∀ sts : List St, (sts.flatMap St.rows).countP isLet + (sts.filter St.isU).length = sts.length
  | [] => rfl
  | s :: sts => by
    have ih := st_lets sts
    rw [List.flatMap_cons, List.countP_append, List.length_cons]
    cases s with
    | lt b x w t =>
      rw [List.filter_cons_of_neg (by exact Bool.false_ne_true)]
      have : (St.lt b x w t).rows.countP isLet = 1 := by cases b <;> rfl
      omega
    | us x pt ws ts =>
      rw [List.filter_cons_of_pos (by exact rfl), List.length_cons]
      have : (St.us x pt ws ts).rows.countP isLet = 0 := rfl
      omega
theorem rows_asks {y : Yard} (Y_ : YardOk y) {k : Nat} {p : Y.Part} (hk : y[k]? = some p) (path : Str) : (p.rows.flatMap (rowA y path)).length ≤ 18 := by
  have fl := flat_len2 (f := rowA y path) (p := isLet) (q := isUse) (m := 7) (l := p.rows) fun r hr => by
    cases r with
    | let_ x t => exact Nat.le_refl 1
    | use x q ws ts =>
      obtain ⟨nmx, i, p', hi, hp', rfl⟩ := use_ahead Y_ hk hr
      rw [rowA_use Y_ hp', List.length_map, List.length_zip]
      have := (Y_.pu p' (List.mem_of_getElem? hp')).di
      show _ ≤ 0 + 7
      omega
    | _ => exact Nat.zero_le _
  have u2 := uses2 Y_ hk
  obtain ⟨zs, hds, hr, sts, m, _⟩ := Y_.md k p hk
  have hl := st_lets sts
  have su := st_uses sts
  have z1 : hr.countP isLet = 0 := List.countP_eq_zero.mpr fun r h => by
    obtain ⟨hd, _, c⟩ := m.hcp _ h
    cases c <;> exact Bool.false_ne_true
  have z2 : hr.countP isUse = 0 := List.countP_eq_zero.mpr fun r h => by
    obtain ⟨hd, _, c⟩ := m.hcp _ h
    cases c <;> exact Bool.false_ne_true
  have e1 : p.rows.countP isLet = (sts.flatMap St.rows).countP isLet := by
    rw [m.perm.countP_eq, List.countP_append, z1, Nat.add_zero]
  have e2 : p.rows.countP isUse = (sts.filter St.isU).length := by
    rw [m.perm.countP_eq, List.countP_append, z2, Nat.add_zero, su]
  have := m.sl
  omega
structure WebOk (g : Web) : Prop where
  ok : ∀ p ∈ g, okT p.1 104 ∧ p.2.length ≤ 27 ∧ ∀ z ∈ p.2, okT z 104
  len : g.length ≤ 270
theorem asks_ok {y : Yard} (Y_ : YardOk y) {k : Nat} {pt : Y.Part} (hk : y[k]? = some pt) : WebOk (foldW [] (asksL y pt)) := by
  have ly := Y_.ne.2
  have lk := (List.getElem?_eq_some_iff.mp hk).1
  have okW := wlk_ok Y_ 6 k (Str.ofString "") pt hk (by omega) ((okT.of "" (n := 0) (by decide +kernel)).mono (by omega))
  refine ⟨foldW_mem (fun _ h => by cases h) fun e he => ?_, ?_⟩
  · obtain ⟨⟨path, p⟩, hw, he⟩ := List.mem_flatMap.mp he
    obtain ⟨r, hr, he⟩ := List.mem_flatMap.mp he
    obtain ⟨⟨j, hj⟩, op⟩ := okW _ hw
    have hr : r ∈ p.rows := hr
    have he : e ∈ rowA y path r := he
    have hj : y[j]? = some p := hj
    have op : okT path 63 := op
    have RO := rows_ok Y_ hj
    have okr := RO.ok r hr
    cases r with
    | let_ x t =>
      have he := List.mem_singleton.mp he
      subst he
      obtain ⟨a, b⟩ := ask_ok okr.2.1 okr.2.2 op
      exact ⟨(op.app okr.1.ok).mono (by decide), a, b⟩
    | use x q ws ts =>
      obtain ⟨nmx, i, p', hi, hp', rfl⟩ := use_ahead Y_ hj hr
      rw [rowA_use Y_ hp'] at he
      obtain ⟨⟨dn, t⟩, hz, rfl⟩ := List.mem_map.mp he
      have hdn := (List.of_mem_zip hz).1
      have okt := okr.2.2.2 t (List.of_mem_zip hz).2
      have nmd : nmS dn := by
        obtain ⟨e_, he_, rfl⟩ := List.mem_map.mp hdn
        exact ((Y_.pu p' (List.mem_of_getElem? hp')).dr e_ (List.mem_filter.mp he_).1).1
      obtain ⟨a, b⟩ := ask_ok okt.1 okt.2 op
      exact ⟨(((op.app nmx.ok).app (okT.of "." (n := 1) (by decide +kernel))).app nmd.ok).mono (by decide), a, b⟩
    | _ => cases he
  · have h1 := foldW_len (asksL y pt) []
    have h2 := flat_len (f := fun e : Str × Y.Part => e.2.rows.flatMap (rowA y e.1)) (p := fun _ => true) (m := 18) (l := wlk y 6 (Str.ofString "") pt) fun e he => by
      obtain ⟨⟨j, hj⟩, _⟩ := okW e he
      exact rows_asks Y_ hj e.1
    have h3 := wlk_len Y_ 6 k (Str.ofString "") pt hk
    have p2 : 2 ^ (k + 1) ≤ 2 ^ 4 := Nat.pow_le_pow_right (by decide) (by omega)
    have p16 : (2 : Nat) ^ 4 = 16 := by decide
    have h4 : (wlk y 6 (Str.ofString "") pt).countP (fun _ => true) ≤ (wlk y 6 (Str.ofString "") pt).length := List.countP_le_length
    rw [List.length_nil] at h1
    have h5 : (asksL y pt).length ≤ (wlk y 6 (Str.ofString "") pt).countP (fun _ => true) * 18 := h2
    omega
def datW (g : Web) : List PyData := g.map fun p => .list (p.2.map PyData.str)
def webD (g : Web) : PyData := .dict (g.map fun p => (.str p.1, .list (p.2.map PyData.str)))
theorem web_dict {H : Hp} : ∀ {kvs : List (Key × V)} {g : Web}, WebKV K H kvs g → (kvs.map fun p => keyD p.1).zip (datW g) = g.map fun p => (PyData.str p.1, PyData.list (p.2.map PyData.str))
  | _, _, .nil => rfl
  | kv :: kvs, p :: g, .cons e r => by
    have ih := web_dict r
    unfold datW at ih ⊢
    rw [List.map_cons, List.map_cons, List.map_cons, List.zip_cons_cons, ih, e.1] <;> rfl
theorem sm_strs {zs : List Str} (h : ∀ z ∈ zs, okT z 104) (l : zs.length ≤ 27) : Sm (.list (zs.map PyData.str)) 28200 := (sm_lst (smA_map fun z hz => sm_str (h z hz))).mono (by
  have : (10 * 104 + 2 + 2) * zs.length ≤ (10 * 104 + 2 + 2) * 27 := Nat.mul_le_mul_left _ l
  omega)
theorem dp0 : ∀ zs : List Str, PyData.depthAll (zs.map PyData.str) = 0
  | [] => rfl
  | z :: zs => by
    show max 0 (PyData.depthAll (zs.map PyData.str)) = 0
    rw [dp0 zs] <;> rfl
theorem web_dp {H : Hp} : ∀ {kvs : List (Key × V)} {g : Web}, WebKV K H kvs g → (∀ p ∈ g, okT p.1 104 ∧ p.2.length ≤ 27 ∧ ∀ z ∈ p.2, okT z 104) → DpAll K H (kvs.map (·.2)) (datW g) ∧ PyData.hasDictAll (datW g) = false
  | _, _, .nil, _ => ⟨.nil, rfl⟩
  | kv :: kvs, p :: g, .cons e r, h => by
    obtain ⟨ek, l, el, hs⟩ := e
    obtain ⟨_, h1, h2⟩ := h p (List.mem_cons_self ..)
    obtain ⟨t1, t2, t3⟩ := strs_dp (K := K) (H := H) (zs := p.2) fun z hz => ⟨104, h2 z hz⟩
    have ih := web_dp r fun p' hp' => h p' (List.mem_cons_of_mem _ hp')
    unfold datW at ih ⊢
    rw [List.map_cons, List.map_cons, el]
    refine ⟨.cons (.lst hs t1) ih.1, ?_⟩
    show (PyData.hasDict (.list (p.2.map PyData.str)) || _) = false
    rw [(sm_strs h2 h1).hd, ih.2] <;> rfl
theorem webD_all : ∀ {g : Web}, (∀ p ∈ g, okT p.1 104 ∧ p.2.length ≤ 27 ∧ ∀ z ∈ p.2, okT z 104) → PyData.showableKv (g.map fun p => (PyData.str p.1, PyData.list (p.2.map PyData.str))) = true ∧ PyData.depthKv (g.map fun p => (PyData.str p.1, PyData.list (p.2.map PyData.str))) ≤ 1 ∧ cpKv (g.map fun p => (PyData.str p.1, PyData.list (p.2.map PyData.str))) = true ∧ bndKv (g.map fun p => (PyData.str p.1, PyData.list (p.2.map PyData.str))) ≤ 30000 * g.length
  | [], _ => ⟨rfl, by decide, rfl, Nat.le_refl _⟩
  | p :: g, h => by
    obtain ⟨a, b, c, d⟩ := webD_all (g := g) fun y hy => h y (List.mem_cons_of_mem _ hy)
    obtain ⟨h1, h4, hz⟩ := h p (List.mem_cons_self ..)
    have s := sm_strs hz h4
    have k := sm_str h1
    refine ⟨?_, ?_, ?_, ?_⟩
    · show (true && (PyData.list (p.2.map PyData.str)).showable && _) = true
      rw [s.sh]
      exact a
    · show max (max 0 (PyData.depthAll (p.2.map PyData.str) + 1)) _ ≤ 1
      rw [dp0]
      omega
    · show (cpOk (.str p.1) && cpOk (.list (p.2.map PyData.str)) && _) = true
      rw [k.cp, s.cp]
      exact c
    · have := s.b
      have := k.b
      rw [List.length_cons]
      show bnd (.str p.1) + bnd (.list (p.2.map PyData.str)) + 4 + bndKv _ ≤ _
      omega
/-- repr of what is asked -/
theorem web_repr {H : Hp} {Q : VK} {a : Addr} {kvs : List (Key × V)} {g : Web} (ha : Rd H a (.dK kvs)) (hk : WebKV K H kvs g) (ok : WebOk g) (q : Q (.str (webD g).shown) H) : rReprK K [.ref a] H Q := by
  obtain ⟨w1, w2, w3, w4⟩ := webD_all ok.ok
  obtain ⟨d1, d2⟩ := web_dp hk ok.ok
  have e : dictD kvs (datW g) = webD g := by
    unfold dictD webD
    rw [web_dict hk]
  refine ⟨a, kvs, datW g, rfl, ha, d1, ?_, d2, ?_, ?_, ?_⟩
  · rw [e]
    exact w1
  · rw [e]
    show PyData.depthKv _ + 1 ≤ 50
    omega
  · rw [e]
    refine Nat.le_trans (shown_bnd (webD g) w3) ?_
    show bndKv _ + 4 ≤ sizeLine
    have := ok.len
    refine Nat.le_trans (show _ ≤ 9000000 by omega) (by decide)
  · rw [e]
    exact q
theorem mds_ok {y : Yard} (Y_ : YardOk y) : ∀ (n k : Nat) (path : Str) (pt : Y.Part) (ms : List Int), y[k]? = some pt → k ≤ 3 → okT path (21 * (3 - k)) → msOk pt ms → ∀ e ∈ mds y n path pt ms, okT e.1 63 ∧ ∃ (j : Nat) (p : Y.Part), y[j]? = some p ∧ e.2.1 = p.name ∧ msOk p e.2.2
  | 0, _, _, _, _, _, _, _, _, _, h => by cases h
  | n + 1, k, path, pt, ms, hk, k3, op, mok, e, h => by
    rw [mds_succ] at h
    rcases List.mem_cons.mp h with rfl | h
    · exact ⟨op.mono (by omega), k, pt, hk, rfl, mok⟩
    obtain ⟨r, hr, he⟩ := List.mem_flatMap.mp h
    cases r with
    | use x q ws ts =>
      obtain ⟨nmx, _⟩ := use_ahead Y_ hk hr
      obtain ⟨i, p, hi, hp, rfl, lws, okws, _⟩ := use_more Y_ hk hr
      have he : e ∈ (match fnd y p.name with
        | some p => mds y n (path ++ x ++ Str.ofString ".") p (ws.map (wv (kvN pt.params ms)))
        | none => []) := he
      rw [fnd_at Y_ hp] at he
      refine mds_ok Y_ n i _ p _ hp (by omega) (((op.app nmx.ok).app (okT.of "." (n := 1) (by decide +kernel))).mono (by omega)) ⟨by rw [List.length_map, lws], fun m hm => ?_⟩ e he
      obtain ⟨w, hw, rfl⟩ := List.mem_map.mp hm
      exact (wv_ok mok (Y_.pu pt (List.mem_of_getElem? hk)) (okws w hw)).2
    | _ => cases he
theorem md_sm {e : Str × Str × List Int} {p : Y.Part} (op : okT e.1 63) (hn : e.2.1 = p.name) (PP : PU p) (mok : msOk p e.2.2) : Sm (mdD e) 1000 ∧ cl (mdD e) = true ∧ (mdD e).depth ≤ 3 := by
  have l3 : e.2.2.length ≤ 3 := by rw [mok.1]; exact PP.pl
  have on : okT e.2.1 20 := by rw [hn]; exact PP.nm.ok
  have si : SmA (e.2.2.map PyData.int) ((24 + 2) * e.2.2.length) := smA_map fun i hi => by
    have := mok.2 i hi
    exact sm_int (by omega) (Int.lt_of_le_of_lt this.2 (by decide))
  refine ⟨(sm_tup (smA_cons (sm_str op) (smA_cons (sm_str on) (smA_cons (sm_tup si) smA_nil)))).mono ?_, ?_⟩
  · have : (24 + 2) * e.2.2.length ≤ (24 + 2) * 3 := Nat.mul_le_mul_left _ l3
    omega
  · have c1 := cl_tu (ds := e.2.2.map PyData.int) (n := 0) fun d hd => by
      obtain ⟨i, _, rfl⟩ := List.mem_map.mp hd
      exact cl_int
    have c2 := cl_tu (ds := [.str e.1, .str e.2.1, .tuple (e.2.2.map PyData.int)]) (n := 1) (fun d hd => by
      simp only [List.mem_cons, List.not_mem_nil, or_false] at hd
      rcases hd with rfl | rfl | rfl
      · exact ⟨cl_str op, Nat.zero_le _⟩
      · exact ⟨cl_str on, Nat.zero_le _⟩
      · exact c1)
    exact ⟨c2.1, Nat.le_trans c2.2 (by decide)⟩
theorem valV_key : ∀ {kvs : List (Key × V)} {k : Key}, k ∉ kvs.map (·.1) → valV kvs k = none
  | [], _, _ => rfl
  | p :: r, k, h => by
    rw [valV_neg (fun z => h (by simp [z])), valV_key fun z => h (List.mem_cons_of_mem _ z)]
theorem merge_nodup : ∀ (more kvs : List (Key × V)), ((kvs ++ more).map (·.1)).Nodup → mergeK kvs more = kvs ++ more
  | [], kvs, _ => by rw [List.append_nil] <;> rfl
  | p :: r, kvs, h => by
    have hk : p.1 ∉ kvs.map (·.1) := fun z => by
      rw [List.map_append, List.map_cons] at h
      exact (List.nodup_append.mp h).2.2 p.1 z p.1 (by simp) rfl
    have e : putK kvs p.1 p.2 = kvs ++ [p] := putK_new p.2 (valV_key hk)
    show mergeK (putK kvs p.1 p.2) r = _
    rw [e, merge_nodup r (kvs ++ [p]) (by simpa using h)]
    simp
theorem valV_nd : ∀ {kvs : List (Key × V)} {i : Nat} {k : Key} {v : V}, (kvs.map (·.1)).Nodup → kvs[i]? = some (k, v) → valV kvs k = some v
  | [], _, _, _, _, h => by simp at h
  | p :: r, 0, k, v, _, h => by
    cases h
    exact valV_pos rfl
  | p :: r, i + 1, k, v, nd, h => by
    have nd' := List.nodup_cons.mp (show (p.1 :: r.map (·.1)).Nodup from nd)
    have h : r[i]? = some (k, v) := h
    rw [valV_neg (fun z => nd'.1 (List.mem_map.mpr ⟨(k, v), List.mem_of_getElem? h, z.symm⟩))]
    exact valV_nd nd'.2 h
theorem valV_has : ∀ {kvs : List (Key × V)} {k : Key} {v : V}, (k, v) ∈ kvs → ∃ u, valV kvs k = some u ∧ (k, u) ∈ kvs
  | p :: r, k, v, h => by
    by_cases z : p.1 = k
    · exact ⟨p.2, valV_pos z, by rw [← z]; exact List.mem_cons_self ..⟩
    · rcases List.mem_cons.mp h with h | h
      · exact absurd (by rw [← h]) z
      · obtain ⟨u, h1, h2⟩ := valV_has h
        exact ⟨u, by rw [valV_neg z]; exact h1, List.mem_cons_of_mem _ h2⟩
def kvP (us : List V) (y : Yard) : List (Key × V) := (y.zip us).map fun e => ((Sum.inr e.1.name : Key), e.2)
theorem kvP_keys {us : List V} {y : Yard} (l : us.length = y.length) : (kvP us y).map (·.1) = (y.map Y.Part.name).map (Sum.inr : Str → Key) := by
  have h : (y.zip us).map Prod.fst = y := List.map_fst_zip (by omega)
  have h2 : (kvP us y).map (·.1) = ((y.zip us).map Prod.fst).map fun p => (Sum.inr p.name : Key) := by
    unfold kvP
    rw [List.map_map, List.map_map] <;> rfl
  rw [h2, h, List.map_map] <;> rfl
theorem kvP_nd {us : List V} {y : Yard} (Y_ : YardOk y) (l : us.length = y.length) : ((kvP us y).map (·.1)).Nodup := by
  rw [kvP_keys l]
  exact List.Pairwise.map _ (fun a b h z => h (Sum.inr.inj z)) Y_.nd
theorem kvP_at {us : List V} {y : Yard} {i : Nat} {v : V} {p : Y.Part} (hv : us[i]? = some v) (hp : y[i]? = some p) : (kvP us y)[i]? = some (Sum.inr p.name, v) := by
  unfold kvP
  rw [List.getElem?_map, (List.getElem?_zip_eq_some (l₁ := y) (l₂ := us) (z := (p, v))).mpr ⟨hp, hv⟩] <;> rfl
theorem md_repr {H : Hp} {Q : VK} {y : Yard} (Y_ : YardOk y) {k : Nat} {pt : Y.Part} (hk : y[k]? = some pt) (hl : k + 1 = y.length) {l : Addr} {ls : List V} (gl : SqT K H l ls) (tls : TuAll H ls ((mds y 6 (Str.ofString "") pt []).map mdD)) (q : Q (.str (PyData.tuple ((mds y 6 (Str.ofString "") pt []).map mdD)).shown) H) : rReprD K [.ref l] H Q := by
  have ly := Y_.ne.2
  have mo := mds_ok Y_ 6 k (Str.ofString "") pt [] hk (by omega) ((okT.of "" (n := 0) (by decide +kernel)).mono (by omega)) ⟨by rw [Y_.main k pt hk hl] <;> rfl, fun m hm => by cases hm⟩
  have mw := congrArg List.length (mds_wlk y 6 (Str.ofString "") pt [])
  rw [List.length_map, List.length_map] at mw
  have lW := wlk_len Y_ 6 k (Str.ofString "") pt hk
  have p2 : 2 ^ (k + 1) ≤ 2 ^ 4 := Nat.pow_le_pow_right (by decide) (by omega)
  have p16 : (2 : Nat) ^ 4 = 16 := by decide
  have sm : ∀ e ∈ mds y 6 (Str.ofString "") pt [], Sm (mdD e) 1000 ∧ cl (mdD e) = true ∧ (mdD e).depth ≤ 3 := fun e he => by
    obtain ⟨op, j, p, hj, hn, mok⟩ := mo e he
    exact md_sm op hn (Y_.pu p (List.mem_of_getElem? hj)) mok
  have s := sm_tup (smA_map (f := mdD) (n := 1000) fun e he => (sm e he).1)
  have c := cl_tu (ds := (mds y 6 (Str.ofString "") pt []).map mdD) (n := 3) fun d hd => by
    obtain ⟨e, he, rfl⟩ := List.mem_map.mp hd
    exact (sm e he).2
  have lm : (1000 + 2) * (mds y 6 (Str.ofString "") pt []).length ≤ (1000 + 2) * 15 := Nat.mul_le_mul_left _ (by omega)
  exact sm_repr (.tup gl tls.dp) (Nat.le_trans c.2 (by decide)) s (by omega) q
/-- what was told may be changed -/
structure Told (Hs H : Hp) (p : Addr) (kvs : List (Key × V)) (n : Nat) : Prop where
  h : ∀ kv ∈ kvs, ∃ l, kv.2 = .ref l ∧ Hs l = none ∧ l ≠ p ∧ ∃ xs, H l = some (.lst xs) ∧ xs.length ≤ n
theorem webF_told {Hs H : Hp} {p : Addr} {n : Nat} : ∀ {kvs : List (Key × V)} {g : Web}, WebF Hs H kvs g → H p = none → (∀ q ∈ g, q.2.length ≤ n) → ∀ kv ∈ kvs, (∃ x, kv.1 = Sum.inr x) ∧ ∃ l, kv.2 = .ref l ∧ Hs l = none ∧ l ≠ p ∧ ∃ xs, H l = some (.lst xs) ∧ xs.length ≤ n
  | _, _, .nil, _, _, _, h => by cases h
  | kv :: kvs, q :: g, .cons e r, hp, hn, x, h => by
    rcases List.mem_cons.mp h with rfl | h
    · obtain ⟨e1, l, e2, e3, e4⟩ := e
      exact ⟨⟨_, e1⟩, l, e2, e3, some_ne e4 hp, _, e4, by rw [List.length_map]; exact hn q (List.mem_cons_self ..)⟩
    · exact webF_told r hp (fun y hy => hn y (List.mem_cons_of_mem _ hy)) x h
theorem tu_ints {H : Hp} : ∀ {xs : List V} {ms : List Int}, TuAll H xs (ms.map PyData.int) → xs = ms.map V.int
  | [], [], _ => rfl
  | x :: xs, m :: ms, h => by
    cases h with
    | cons a r =>
      rw [tu_int a, tu_ints r, List.map_cons]
  | [], m :: ms, h => by cases h
  | x :: xs, [], h => by cases h
theorem row_terms {y : Yard} (Y_ : YardOk y) {k : Nat} {p : Y.Part} (hk : y[k]? = some p) {r : Y.Row} (hr : r ∈ p.rows) : (∀ t ∈ r.terms, t.ok p.params ∧ t.deep ≤ 4) ∧ r.terms.length ≤ 7 := by
  have okr := (rows_ok Y_ hk).ok r hr
  cases r with
  | rest x w n t => exact ⟨fun t' ht => by rw [List.mem_singleton.mp ht]; exact okr.2.2.2, by show 1 ≤ 7; decide⟩
  | let_ x t => exact ⟨fun t' ht => by rw [List.mem_singleton.mp ht]; exact okr.2, by show 1 ≤ 7; decide⟩
  | use x q ws ts =>
    obtain ⟨i, p', hi, hp', hn, _, _, lt⟩ := use_more Y_ hk hr
    have := (Y_.pu p' (List.mem_of_getElem? hp')).di
    exact ⟨okr.2.2.2, by show ts.length ≤ 7; omega⟩
  | mem x w n a b c =>
    refine ⟨fun t' ht => ?_, by show 3 ≤ 7; decide⟩
    have ht : t' ∈ [a, b, c] := ht
    simp only [List.mem_cons, List.not_mem_nil, or_false] at ht
    rcases ht with rfl | rfl | rfl
    · exact okr.2.2.2.1
    · exact okr.2.2.2.2.1
    · exact okr.2.2.2.2.2
  | _ => exact ⟨fun t' ht => (by cases ht), Nat.zero_le _⟩
theorem vr_law (vs H Q E) (h : sp_law K vs H Q E) : (rd_law K) { nx := fun _ H' => Q .non H', rt := Q } (start ["_law_script", "_law_yard_here", "_law_made", "_law_asks_here", "_law_parts", "_law_turn", "_law_told", "_law_found", "_law_name", "_law_path", "_law_numbers_here", "_law_part_here", "_law_row", "_law_term_here"] vs) H := by
  obtain ⟨a, ns, rfl, hS, hl63, q⟩ := h
  unfold rd_law
  walk_at "zz"
  refine ⟨a, ns, rfl, hS, fun ty H1 y us Y_ gty1 pts1 e1 => ?_⟩
  have ly := Y_.ne
  obtain ⟨k, hkl⟩ : ∃ k, k + 1 = y.length := ⟨y.length - 1, by omega⟩
  obtain ⟨pt, hk⟩ : ∃ pt, y[k]? = some pt := ⟨_, List.getElem?_eq_getElem (by omega)⟩
  have lu := pts1.1
  obtain ⟨v0, hv0⟩ : ∃ v, us[k]? = some v := ⟨_, List.getElem?_eq_getElem (by omega)⟩
  have sl : (4000000 : Nat) < sizeLine := by decide
  have X4 : 31 ^ (k + 1) ≤ 31 ^ 4 := Nat.pow_le_pow_right (by decide) (by omega)
  have X5 : (31 : Nat) ^ 4 = 923521 := by decide
  have om : okT (Str.ofString "") (21 * (3 - k)) := (okT.of "" (n := 0) (by decide +kernel)).mono (by omega)
  have mokm : msOk pt [] := ⟨by rw [Y_.main k pt hk hkl] <;> rfl, fun m hm => by cases hm⟩
  walk_at "zz"
  refine z_lenT (st_of gty1) ?_
  walk_at "zz"
  refine z_ixT (st_of gty1) (last_at lu hkl hv0) ?_
  walk_at "zz"
  refine ⟨szl (by simp), fun tn htn => ?_⟩
  have e2 := Ex.new (o := .tup []) htn
  have gtn : upd H1 tn (.tup []) tn = some (.tup []) := upd_same
  generalize upd H1 tn (.tup []) = H2 at e2 gtn ⊢
  walk_at "zz"
  refine ⟨szl (by simp), fun fl hfl => ?_⟩
  have e3 := Ex.new (o := .lst []) hfl
  have gfl : upd H2 fl (.lst []) fl = some (.lst []) := upd_same
  have e13 := e2.trans e3
  have fl1 := ex_none e2 hfl
  generalize upd H2 fl (.lst []) = H3 at e3 gfl e13 ⊢
  walk_at "zz"
  have pts3 := pts1.bu (B := []) (But.ex e13) (fun _ h => by cases h)
  refine ⟨ty, tn, fl, v0, Str.ofString "", y, us, [], k, pt, [], [], rfl, Y_, ⟨e13 _ _ gty1, pts3⟩, ⟨hk, by omega, by omega⟩, pts3.2 k v0 pt hv0 hk, om, e3 _ _ gtn, mokm, ⟨gfl, .nil, by simp only [List.length_nil]; omega⟩, fun H4 lm g4 t4 l4 b4 => ?_⟩
  have t4 : TuAll H4 lm ((mds y 6 (Str.ofString "") pt []).map mdD) := t4
  walk_at "zz"
  refine ⟨_, _, rfl, .inl ⟨sq_of g4, fun m hm => ?_⟩⟩
  have e5 := Ex.new (o := .tup lm) hm
  have gm5 : upd H4 m (.tup lm) m = some (.tup lm) := upd_same
  have e15 : Ex H1 (upd H4 m (.tup lm)) := ((((But.ex e13 (B := [fl])).trans b4)).exOf fun p hp => by rw [List.mem_singleton.mp hp]; exact fl1).trans e5
  have t5 := t4.ex e5
  generalize upd H4 m (.tup lm) = H5 at e5 gm5 e15 t5 ⊢
  clear e2 gtn e3 gfl e13 fl1 pts3 t4 g4 l4 b4 e5 X4 X5
  walk_at "zz"
  have pts5 := pts1.bu (B := []) (But.ex e15) (fun _ h => by cases h)
  have gty5 := e15 _ _ gty1
  refine ⟨ty, y, us, k, pt, rfl, Y_, gty5, pts5, ⟨hk, hkl⟩, fun da H6 kvA hda e6 gda wA => ?_⟩
  have gty6 := e6 _ _ gty5
  have pts6 := pts5.bu (B := []) (But.ex e6) (fun _ h => by cases h)
  have gm6 := e6 _ _ gm5
  have t6 := t5.ex e6
  have e16 := (e1.trans e15).trans e6
  have wA := wA.kv (K := K)
  clear gty5 pts5 gm5 t5 e6 gty1 pts1 hda e15 e1
  walk_at "zz"
  refine z_CTg (st_of gty6) (fun D j H' => Ex H6 H' ∧ ∃ qs : List Addr, H' D = some (.lst (qs.map V.ref)) ∧ Paired (fun (p : Addr) (kv : Key × V) => H' p = some (.tup [kV kv.1, kv.2])) qs ((kvP us y).take j)) (fun D hD => ⟨Ex.new hD, [], upd_same, .nil⟩) (fun D j H' hD p => st_of (p.1 _ _ gty6)) (fun D j x H' hD hj hx p => ?_) (fun D H' hD p => ?_)
  · obtain ⟨e, qs, g, pr⟩ := p
    obtain ⟨pj, hpj⟩ : ∃ pj, y[j]? = some pj := ⟨_, List.getElem?_eq_getElem (by rw [← pts6.1]; exact hj)⟩
    obtain ⟨bm, pam, ram, om_, rsm, rfl, hbm, _⟩ := (pts6.2 j x pj hx hpj).ex e
    refine z_gname ⟨rfl, ?_⟩
    walk_at "zz"
    refine z_ixT (st_of hbm) (show atI _ ((0 : Nat) : Int) = _ from atI_nat rfl) ?_
    walk_at "zz"
    refine ⟨szl (by simp), fun tp htp => ?_⟩
    have e7 := Ex.new (o := .tup [.str pj.name, .ref bm]) htp
    have lq := Paired.length pr
    rw [List.length_take] at lq
    have nD : ∀ (o : HO), Ex (upd H' tp (.tup [.str pj.name, .ref bm])) (upd (upd H' tp (.tup [.str pj.name, .ref bm])) D o) → True := fun _ _ => trivial
    have gD := e7 _ _ g
    have nt : ∀ {p : Addr} {vs : List V}, upd H' tp (.tup [.str pj.name, .ref bm]) p = some (.tup vs) → upd (upd H' tp (.tup [.str pj.name, .ref bm])) D (.lst (qs.map V.ref ++ [.ref tp])) p = some (.tup vs) := fun {p vs} h => by
      rw [upd_ne (fun z => by rw [z, gD] at h; cases h)]
      exact h
    refine ⟨_, gD, szlt (by rw [List.length_map]; omega), (e.trans e7).mut hD, qs ++ [tp], by rw [upd_same, List.map_append] <;> rfl, ?_⟩
    rw [take_snoc (kvP_at hx hpj)]
    exact Paired.snoc (Paired.mono (fun _ _ z => nt (e7 _ _ z)) pr) (nt upd_same)
  obtain ⟨e7, qs, gD, pr⟩ := p
  rw [lu, List.take_of_length_le (by unfold kvP; rw [List.length_map, List.length_zip]; omega)] at pr
  have ndk := kvP_nd Y_ lu
  walk_at "zz"
  refine ⟨D, qs, kvP us y, rfl, sq_of gD, Paired.mono (fun _ _ z => st_of z) pr, fun dp hdp => ?_⟩
  rw [merge_nodup (kvP us y) [] ndk, List.nil_append]
  have e8 := e7.trans (Ex.new (o := .dK (kvP us y)) hdp)
  have gp8 : upd H' dp (.dK (kvP us y)) dp = some (.dK (kvP us y)) := upd_same
  show gName 4 (V.ref dp) _ (upd H' dp (.dK (kvP us y))) _
  generalize upd H' dp (.dK (kvP us y)) = H8 at e8 gp8 ⊢
  have gty8 := e8 _ _ gty6
  have pts8 := pts6.bu (B := []) (But.ex e8) (fun _ h => by cases h)
  have gm8 := e8 _ _ gm6
  have t8 := t6.ex e8
  have gda8 := e8 _ _ gda
  have wA8 : WebKV K H8 kvA (foldW [] (asksL y pt)) := Paired.mono (fun _ _ ⟨z, l, w, x⟩ => ⟨z, l, w, ex_l e8 x⟩) wA
  have e18 := e16.trans e8
  clear gty6 pts6 gm6 t6 gda wA e7 pr gD e8 e16 hdp hD
  have AO := asks_ok Y_ hk
  have RN := ring_none Y_ hk
  walk_at "zz"
  refine z_FR1 (by decide) (fun i σ' H' => ∃ (y5 y6 y7 y8 : Option V), σ' = [some (.ref a), some (.ref ty), some (.ref m), some (.ref da), some (.ref dp), y5, y6, y7, y8, none, none, none, none, none] ∧ Ex H8 H') ⟨_, _, _, _, rfl, Ex.refl H8⟩ (fun i σ' H' hi h => ?_) (fun σ' H9 h => ?_)
  · obtain ⟨y5, y6, y7, y8, rfl, ei⟩ := h
    have ptsi := pts8.bu (B := []) (But.ex ei) (fun _ h => by cases h)
    walk_at "zz"
    refine ⟨ty, y, us, k, pt, rfl, Y_, ei _ _ gty8, ptsi, ⟨hk, hkl⟩, fun l Ha ls hl ea gl tl _ => ?_⟩
    have eia := ei.trans ea
    walk_at "zz"
    refine ⟨ty, y, us, k, pt, rfl, Y_, eia _ _ gty8, ptsi.bu (B := []) (But.ex ea) (fun _ h => by cases h), ⟨hk, hkl⟩, fun d Hb kvs hd eb gd wb => ?_⟩
    have eib := eia.trans eb
    have wk := wb.kv (K := K)
    walk_at "zz"
    refine z_isi (T := "tuple") (U := "tuple") (b := true) (ty_tup (st_of (eb _ _ gl))) (kit_ty (by decide +kernel)) (z_trub (ite_f ?_))
    walk_at "zz"
    refine md_repr Y_ hk hkl (st_of (eb _ _ gl)) (tl.ex eb) ?_
    walk_at "zz"
    refine md_repr Y_ hk hkl (st_of (eib _ _ gm8)) (t8.ex eib) ?_
    walk_at "zz"
    rw [decide_eq_true rfl]
    refine ite_f ?_
    walk_at "zz"
    refine web_repr (.inl gd) wk AO ?_
    walk_at "zz"
    refine web_repr (.inl (eib _ _ gda8)) (Paired.mono (fun _ _ ⟨z, l, w, x⟩ => ⟨z, l, w, ex_l eib x⟩) wA8) AO ?_
    walk_at "zz"
    rw [decide_eq_true rfl]
    refine ite_f ?_
    walk_at "zz"
    refine ⟨d, foldW [] (asksL y pt), kvs, rfl, gd, wk, ⟨fun p hp => by have := (AO.ok p hp).2.1; omega, by have := AO.len; omega⟩, ?_⟩
    rw [RN]
    intro Hc ec
    walk_at "zz"
    refine ite_f ?_
    walk_at "zz"
    have gdc := ec _ _ gd
    refine ⟨d, kvs, rfl, .inl gdc, fun p hp => ?_⟩
    have ep := Ex.new (o := .lst (kvs.map fun kv => kV kv.1)) hp
    have gp : upd Hc p (.lst (kvs.map fun kv => kV kv.1)) p = some (.lst (kvs.map fun kv => kV kv.1)) := upd_same
    have told := webF_told (n := 30) (wb.ex ec) hp fun q hq => by have := (AO.ok q hq).2.1; omega
    have eac : Ex Ha (upd Hc p (.lst (kvs.map fun kv => kV kv.1))) := (eb.trans ec).trans ep
    have gdp := ep _ _ gdc
    have told : ∀ kv ∈ kvs, (∃ x, kv.1 = Sum.inr x) ∧ ∃ l, kv.2 = .ref l ∧ Ha l = none ∧ l ≠ p ∧ ∃ xs, upd Hc p (.lst (kvs.map fun kv => kV kv.1)) l = some (.lst xs) ∧ xs.length ≤ 30 := fun kv hkv => by
      obtain ⟨h1, l, h2, h3, h4, xs, h5, h6⟩ := told kv hkv
      exact ⟨h1, l, h2, h3, h4, xs, ep _ _ h5, h6⟩
    show FL K _ _ _ _ (V.ref p) (upd Hc p (.lst (kvs.map fun kv => kV kv.1)))
    have lk := Paired.length wk
    have lg := AO.len
    generalize upd Hc p (.lst (kvs.map fun kv => kV kv.1)) = Hd_ at gp told eac gdp ⊢
    refine z_FL (sq_of gp) (fun j σ' H' => ∃ (y8 : Option V), σ' = [some (.ref a), some (.ref ty), some (.ref m), some (.ref da), some (.ref dp), some (.int (i : Int)), some (.ref l), some (.ref d), y8, none, none, none, none, none] ∧ Ex Ha H' ∧ H' d = some (.dK kvs) ∧ H' p = some (.lst (kvs.map fun kv => kV kv.1)) ∧ ∀ kv ∈ kvs, ∃ l, kv.2 = .ref l ∧ Ha l = none ∧ l ≠ p ∧ ∃ xs, H' l = some (.lst xs) ∧ xs.length ≤ 30 + j) ⟨_, rfl, eac, gdp, gp, fun kv hkv => (told kv hkv).2⟩ (fun j σ' H' hj h => ?_) (fun j x σ' H' hj hx h => ?_) (fun σ' H' h => ?_)
    · obtain ⟨_, _, _, _, g, _⟩ := h
      exact sq_of g
    · obtain ⟨y8, rfl, ej, gdj, gpj, tj⟩ := h
      rw [List.length_map] at hj
      rw [List.getElem?_map] at hx
      obtain ⟨kv, hkv, rfl⟩ := Option.map_eq_some_iff.mp hx
      obtain ⟨⟨xn, exn⟩, _⟩ := told kv (List.mem_of_getElem? hkv)
      obtain ⟨u, hu, hm⟩ := valV_has (kvs := kvs) (k := kv.1) (v := kv.2) (List.mem_of_getElem? hkv)
      obtain ⟨l0, e0, h0, n0, xs, g0, x0⟩ := tj _ hm
      have e0 : u = .ref l0 := e0
      subst e0
      rw [exn] at hu ⊢
      walk_at "zz"
      refine ⟨d, _, rfl, dgK gdj hu, ?_⟩
      refine z_tyl (sq_of g0) ?_
      walk_at "zz"
      refine z_rapp g0 (szlt (by omega)) ?_
      have n0d : l0 ≠ d := fun z => by
        rw [z, gdj] at g0
        cases g0
      refine ⟨_, rfl, ej.mut h0, by rw [upd_ne n0d.symm]; exact gdj, by rw [upd_ne n0.symm]; exact gpj, fun kv2 hkv2 => ?_⟩
      obtain ⟨l2, e2, h2, n2, xs2, g2, x2⟩ := tj _ hkv2
      by_cases z : l2 = l0
      · subst z
        rw [g0] at g2
        cases g2
        exact ⟨l2, e2, h2, n2, _, upd_same, by simp; omega⟩
      · exact ⟨l2, e2, h2, n2, xs2, by rw [upd_ne z]; exact g2, by omega⟩
    obtain ⟨y8, rfl, ej, gdj, gpj, tj⟩ := h
    walk_at "zz"
    refine z_tyd gdj (z_dclear gdj ?_)
    exact ⟨_, _, _, _, rfl, eia.trans (ej.mut hd)⟩
  obtain ⟨y5, y6, y7, y8, rfl, e9⟩ := h
  have gty9 := e9 _ _ gty8
  have pts9 := pts8.bu (B := []) (But.ex e9) (fun _ h => by cases h)
  have gm9 := e9 _ _ gm8
  have t9 := t8.ex e9
  have gp9 := e9 _ _ gp8
  have e19 := e18.trans e9
  have mo := mds_ok Y_ 6 k (Str.ofString "") pt [] hk (by omega) om mokm
  clear gty8 pts8 gm8 t8 gda8 wA8 gp8 e18 e9
  generalize mds y 6 (Str.ofString "") pt [] = M at t9 mo
  walk_at "zz"
  refine z_FT (st_of gm9) (fun i σ' H' => ∃ (y8 y9 y10 : Option V), σ' = [some (.ref a), some (.ref ty), some (.ref m), some (.ref da), some (.ref dp), y5, y6, y7, y8, y9, y10, none, none, none] ∧ Ex H9 H') ⟨_, _, _, rfl, Ex.refl H9⟩ (fun i σ' H' hi h => ?_) (fun i x σ' H' hi hx h => ?_) (fun σ' H' h => ?_)
  · obtain ⟨_, _, _, _, e⟩ := h
    exact st_of (e _ _ gm9)
  · obtain ⟨y8, y9, y10, rfl, ei⟩ := h
    obtain ⟨de, hde, tde⟩ := t9.get hx
    rw [List.getElem?_map] at hde
    obtain ⟨em, hem, rfl⟩ := Option.map_eq_some_iff.mp hde
    obtain ⟨op, j, p, hj, hn, mok⟩ := mo em (List.mem_of_getElem? hem)
    obtain ⟨b, x0, x1, x2, rfl, hb, z0, z1, z2⟩ := tu3 (tde.ex ei)
    cases tu_str z0
    cases tu_str z1
    obtain ⟨tn, xs, rfl, htn, txs⟩ := tu_tup z2
    have exs := tu_ints txs
    subst exs
    obtain ⟨vp, hvp⟩ : ∃ v, us[j]? = some v := ⟨_, List.getElem?_eq_getElem (by rw [lu]; exact (List.getElem?_eq_some_iff.mp hj).1)⟩
    have gv := valV_nd ndk (kvP_at hvp hj)
    refine z_g3 (st_of hb) ?_
    rw [hn]
    walk_at "zz"
    refine ⟨dp, _, rfl, dgK (ei _ _ gp9) gv, ?_⟩
    walk_at "zz"
    refine ⟨vp, tn, p, em.2.2, rfl, (pts9.2 j vp p hvp hj).ex ei, rows_ok Y_ hj, htn, mok, fun H2 e2 => ?_⟩
    walk_at "zz"
    refine ite_f ?_
    walk_at "zz"
    exact ⟨_, _, _, rfl, ei.trans e2⟩
  obtain ⟨y8, y9, y10, rfl, eA⟩ := h
  have gtyA := eA _ _ gty9
  have ptsA := pts9.bu (B := []) (But.ex eA) (fun _ h => by cases h)
  have e1A := e19.trans eA
  clear gty9 pts9 gm9 t9 gp9 e19 eA
  walk_at "zz"
  refine z_FT (st_of gtyA) (fun i σ' H2 => ∃ (y11 y12 : Option V), σ' = [some (.ref a), some (.ref ty), some (.ref m), some (.ref da), some (.ref dp), y5, y6, y7, y8, y9, y10, y11, y12, none] ∧ Ex H' H2) ⟨_, _, rfl, Ex.refl H'⟩ (fun i σ' H2 hi h => ?_) (fun i x σ' H2 hi hx h => ?_) (fun σ' H2 h => ?_)
  · obtain ⟨_, _, _, e⟩ := h
    exact st_of (e _ _ gtyA)
  · obtain ⟨y11, y12, rfl, ei⟩ := h
    obtain ⟨p, hp⟩ : ∃ p, y[i]? = some p := ⟨_, List.getElem?_eq_getElem (by rw [← ptsA.1]; exact hi)⟩
    obtain ⟨bu, pa_, ra, o, rs, rfl, hbu, hpa, od, hra, trs⟩ := (ptsA.2 i x p hx hp).ex ei
    have RO := rows_ok Y_ hp
    walk_at "zz"
    refine z_ixT (st_of hbu) (show atI _ ((2 : Nat) : Int) = _ from atI_nat rfl) ?_
    walk_at "zz"
    refine z_FT (st_of hra) (fun j σ' H3 => ∃ (y12 : Option V), σ' = [some (.ref a), some (.ref ty), some (.ref m), some (.ref da), some (.ref dp), y5, y6, y7, y8, y9, y10, some (.ref bu), y12, none] ∧ Ex H2 H3) ⟨_, rfl, Ex.refl H2⟩ (fun j σ' H3 hj h => ?_) (fun j x σ' H3 hj hx h => ?_) (fun σ' H3 h => ?_)
    · obtain ⟨_, _, e⟩ := h
      exact st_of (e _ _ hra)
    · obtain ⟨y12, rfl, ej⟩ := h
      obtain ⟨dd_, hdd, tdd⟩ := trs.get hx
      rw [List.getElem?_map] at hdd
      obtain ⟨r, hr, rfl⟩ := Option.map_eq_some_iff.mp hdd
      obtain ⟨okt, lt⟩ := row_terms Y_ hp (List.mem_of_getElem? hr)
      walk_at "zz"
      refine ⟨_, r, rfl, tdd.ex ej, fun L H4 ks hL e4 gL tks => ?_⟩
      have lks := tks.len
      rw [List.length_map] at lks
      refine z_CLg (sq_of gL) (fun D n H5 => Ex H4 H5 ∧ H5 D = some (.lst ((List.replicate n true).map V.bl))) (fun D hD => ⟨Ex.new hD, upd_same⟩) (fun D n H5 hD p => sq_of (p.1 _ _ gL)) (fun D n x H5 hD hn hx p => ?_) (fun D H5 hD p => ?_)
      · obtain ⟨e, g⟩ := p
        obtain ⟨dk, hdk, tdk⟩ := tks.get hx
        rw [List.getElem?_map] at hdk
        obtain ⟨kid, hkid, rfl⟩ := Option.map_eq_some_iff.mp hdk
        have hm := okt kid (List.mem_of_getElem? hkid)
        refine z_gname ⟨rfl, ?_⟩
        walk_at "zz"
        refine ⟨x, kid, _, rfl, tdk.ex e, ⟨hm.1, RO.pu.pn, by omega, by omega⟩, fun H6 e6 => ?_⟩
        refine ⟨_, e6 _ _ g, szlt (by rw [List.length_map, List.length_replicate]; omega), (e.trans e6).mut hD, ?_⟩
        rw [upd_same, List.replicate_succ', List.map_append] <;> rfl
      obtain ⟨e, g⟩ := p
      walk_at "zz"
      refine ⟨D, List.replicate ks.length true, rfl, sq_of g, ?_⟩
      rw [show (List.replicate ks.length true).all id = true from List.all_eq_true.mpr fun b hb => (List.mem_replicate.mp hb).2]
      walk_at "zz"
      refine ite_f ?_
      walk_at "zz"
      exact ⟨_, rfl, (ej.trans e4).trans e⟩
    obtain ⟨y12, rfl, ej⟩ := h
    exact ⟨_, _, rfl, ei.trans ej⟩
  obtain ⟨y11, y12, rfl, ei⟩ := h
  walk_at "zz"
  exact q.go (e1A.trans ei)
end

end K17
namespace K17
open PySem PySem.Spec PyProof.Rows L2 Z
open Evl (Ex ex_l ex_t sq_of st_of fresh_back RetL RetV)

def topS (i : Nat) : Stmt := PySem.Challenge.pw_wireyard_k17_what_is_made_and_asked.main.body.getD i (.Pass ⟨0, 0, 0, 0⟩)
abbrev s_L_mixed : Stmt := topS 17
theorem sc_L_mixed : FnScope ["_law_number", "_law_k"] ["_law_number", "_law_k"] (defScope s_L_mixed) := ⟨rfl, rfl, rfl, by decide +kernel, rfl, by decide +kernel, by decide +kernel⟩
abbrev s_L_names : Stmt := topS 20
theorem sc_L_names : FnScope ["_law_number", "_law_letters", "_law_base", "_law_size", "_law_at", "_law_signs", "_law_some", "_law_found", "_law_first_here", "_law_other", "_law_told", "_law_j", "_law_k", "_law_sign", "_law_name"] ["_law_number"] (defScope s_L_names) := ⟨rfl, rfl, rfl, by decide +kernel, rfl, by decide +kernel, by decide +kernel⟩
abbrev s_L_cell : Stmt := topS 16
theorem sc_L_cell : FnScope ["_law_script", "_law_k", "_law_cell_here"] ["_law_script", "_law_k"] (defScope s_L_cell) := ⟨rfl, rfl, rfl, by decide +kernel, rfl, by decide +kernel, by decide +kernel⟩
abbrev s_L_next : Stmt := topS 18
theorem sc_L_next : FnScope ["_law_draw"] ["_law_draw"] (defScope s_L_next) := ⟨rfl, rfl, rfl, by decide +kernel, rfl, by decide +kernel, by decide +kernel⟩
abbrev s_L_width : Stmt := topS 21
theorem sc_L_width : FnScope ["_law_draw", "_law_params", "_law_number"] ["_law_draw", "_law_params"] (defScope s_L_width) := ⟨rfl, rfl, rfl, by decide +kernel, rfl, by decide +kernel, by decide +kernel⟩
abbrev s_L_word : Stmt := topS 19
theorem sc_L_word : FnScope ["_law_number", "_law_width_here", "_law_top", "_law_some", "_law_k", "_law_few"] ["_law_number", "_law_width_here"] (defScope s_L_word) := ⟨rfl, rfl, rfl, by decide +kernel, rfl, by decide +kernel, by decide +kernel⟩
abbrev s_L_first : Stmt := topS 22
theorem sc_L_first : FnScope ["_law_number", "_law_width_here"] ["_law_number", "_law_width_here"] (defScope s_L_first) := ⟨rfl, rfl, rfl, by decide +kernel, rfl, by decide +kernel, by decide +kernel⟩
abbrev s_L_heads : Stmt := topS 26
theorem sc_L_heads : FnScope ["_law_draw", "_law_names_here", "_law_params", "_law_has", "_law_number", "_law_rows", "_law_k", "_law_width_here", "_law_more", "_law_size", "_law_some", "_law_row", "_law_j"] ["_law_draw", "_law_names_here", "_law_params", "_law_has"] (defScope s_L_heads) := ⟨rfl, rfl, rfl, by decide +kernel, rfl, by decide +kernel, by decide +kernel⟩
abbrev s_L_leaf : Stmt := topS 23
theorem sc_L_leaf : FnScope ["_law_draw", "_law_words", "_law_width_here", "_law_number", "_law_fits", "_law_term_here", "_law_wide"] ["_law_draw", "_law_words", "_law_width_here"] (defScope s_L_leaf) := ⟨rfl, rfl, rfl, by decide +kernel, rfl, by decide +kernel, by decide +kernel⟩
abbrev s_L_bent : Stmt := topS 24
theorem sc_L_bent : FnScope ["_law_draw", "_law_has", "_law_width_here", "_law_deep", "_law_more", "_law_wide", "_law_one"] ["_law_draw", "_law_has", "_law_width_here", "_law_deep", "_law_more"] (defScope s_L_bent) := ⟨rfl, rfl, rfl, by decide +kernel, rfl, by decide +kernel, by decide +kernel⟩
abbrev s_L_term : Stmt := topS 25
theorem sc_L_term : FnScope ["_law_draw", "_law_has", "_law_width_here", "_law_deep", "_law_number", "_law_way", "_law_more", "_law_one", "_law_test", "_law_fits", "_law_wide", "_law_name"] ["_law_draw", "_law_has", "_law_width_here", "_law_deep"] (defScope s_L_term) := ⟨rfl, rfl, rfl, by decide +kernel, rfl, by decide +kernel, by decide +kernel⟩
abbrev s_L_used : Stmt := topS 27
theorem sc_L_used : FnScope ["_law_draw", "_law_parts", "_law_name", "_law_params", "_law_has", "_law_number", "_law_used_here", "_law_widths", "_law_k", "_law_more", "_law_doors", "_law_row", "_law_wide", "_law_first_here", "_law_terms_here", "_law_kind", "_law_door"] ["_law_draw", "_law_parts", "_law_name", "_law_params", "_law_has"] (defScope s_L_used) := ⟨rfl, rfl, rfl, by decide +kernel, rfl, by decide +kernel, by decide +kernel⟩
abbrev s_L_wired : Stmt := topS 28
theorem sc_L_wired : FnScope ["_law_draw", "_law_step", "_law_own", "_law_params", "_law_has", "_law_number", "_law_width_here", "_law_store", "_law_term_here"] ["_law_draw", "_law_step", "_law_own", "_law_params", "_law_has"] (defScope s_L_wired) := ⟨rfl, rfl, rfl, by decide +kernel, rfl, by decide +kernel, by decide +kernel⟩
abbrev s_L_part : Stmt := topS 29
theorem sc_L_part : FnScope ["_law_draw", "_law_parts", "_law_name", "_law_params", "_law_names_here", "_law_has", "_law_heads_here", "_law_rows", "_law_number", "_law_steps", "_law_step", "_law_own", "_law_row", "_law_place", "_law_word_here", "_law_turn"] ["_law_draw", "_law_parts", "_law_name", "_law_params", "_law_names_here"] (defScope s_L_part) := ⟨rfl, rfl, rfl, by decide +kernel, rfl, by decide +kernel, by decide +kernel⟩
abbrev s_L_yard : Stmt := topS 30
theorem sc_L_yard : FnScope ["_law_script", "_law_draw", "_law_names_here", "_law_many", "_law_parts", "_law_k", "_law_params"] ["_law_script"] (defScope s_L_yard) := ⟨rfl, rfl, rfl, by decide +kernel, rfl, by decide +kernel, by decide +kernel⟩
abbrev s_L_numbers : Stmt := topS 36
theorem sc_L_numbers : FnScope ["_law_yard_here", "_law_part_here", "_law_path", "_law_numbers_here", "_law_found", "_law_known", "_law_row", "_law_used_here", "_law_told", "_law_one", "_law_width_here"] ["_law_yard_here", "_law_part_here", "_law_path", "_law_numbers_here", "_law_found"] (defScope s_L_numbers) := ⟨rfl, rfl, rfl, by decide +kernel, rfl, by decide +kernel, by decide +kernel⟩
abbrev s_L_walked : Stmt := topS 33
theorem sc_L_walked : FnScope ["_law_yard_here", "_law_part_here", "_law_path", "_law_found", "_law_row", "_law_used_here", "_law_one"] ["_law_yard_here", "_law_part_here", "_law_path", "_law_found"] (defScope s_L_walked) := ⟨rfl, rfl, rfl, by decide +kernel, rfl, by decide +kernel, by decide +kernel⟩
abbrev s_L_kids : Stmt := topS 31
theorem sc_L_kids : FnScope ["_law_term_here", "_law_places", "_law_at"] ["_law_term_here"] (defScope s_L_kids) := ⟨rfl, rfl, rfl, by decide +kernel, rfl, by decide +kernel, by decide +kernel⟩
abbrev s_L_asked : Stmt := topS 34
theorem sc_L_asked : FnScope ["_law_term_here", "_law_path", "_law_found", "_law_pile", "_law_one", "_law_name"] ["_law_term_here", "_law_path"] (defScope s_L_asked) := ⟨rfl, rfl, rfl, by decide +kernel, rfl, by decide +kernel, by decide +kernel⟩
abbrev s_L_asks : Stmt := topS 35
theorem sc_L_asks : FnScope ["_law_yard_here", "_law_due", "_law_path", "_law_part_here", "_law_row", "_law_used_here", "_law_doors", "_law_door", "_law_term_here", "_law_one"] ["_law_yard_here"] (defScope s_L_asks) := ⟨rfl, rfl, rfl, by decide +kernel, rfl, by decide +kernel, by decide +kernel⟩
abbrev s_width_number : Stmt := topS 2
theorem sc_width_number : FnScope ["width", "numbers", "name", "number"] ["width", "numbers"] (defScope s_width_number) := ⟨rfl, rfl, rfl, by decide +kernel, rfl, by decide +kernel, by decide +kernel⟩
abbrev s_width_numbers : Stmt := topS 3
theorem sc_width_numbers : FnScope ["widths", "numbers", "width"] ["widths", "numbers"] (defScope s_width_numbers) := ⟨rfl, rfl, rfl, by decide +kernel, rfl, by decide +kernel, by decide +kernel⟩
abbrev s_p_made_from : Stmt := topS 8
theorem sc_p_made_from : FnScope ["parts", "path", "name", "numbers", "_", "params", "rows", "by_param", "made", "row", "use", "used", "widths", "inner"] ["parts", "path", "name", "numbers"] (defScope s_p_made_from) := ⟨rfl, rfl, rfl, by decide +kernel, rfl, by decide +kernel, by decide +kernel⟩
abbrev s_parts_by_name : Stmt := topS 6
theorem sc_parts_by_name : FnScope ["yard", "part"] ["yard"] (defScope s_parts_by_name) := ⟨rfl, rfl, rfl, by decide +kernel, rfl, by decide +kernel, by decide +kernel⟩
abbrev s_made_parts : Stmt := topS 7
theorem sc_made_parts : FnScope ["yard", "main"] ["yard"] (defScope s_made_parts) := ⟨rfl, rfl, rfl, by decide +kernel, rfl, by decide +kernel, by decide +kernel⟩
abbrev s_kids_of : Stmt := topS 1
theorem sc_kids_of : FnScope ["term", "kind"] ["term"] (defScope s_kids_of) := ⟨rfl, rfl, rfl, by decide +kernel, rfl, by decide +kernel, by decide +kernel⟩
abbrev s_p_names_in : Stmt := topS 14
theorem sc_p_names_in : FnScope ["term", "names", "kid"] ["term"] (defScope s_p_names_in) := ⟨rfl, rfl, rfl, by decide +kernel, rfl, by decide +kernel, by decide +kernel⟩
abbrev s_p_asked_by : Stmt := topS 13
theorem sc_p_asked_by : FnScope ["term", "path", "names", "name"] ["term", "path"] (defScope s_p_asked_by) := ⟨rfl, rfl, rfl, by decide +kernel, rfl, by decide +kernel, by decide +kernel⟩
abbrev s_names_told : Stmt := topS 4
theorem sc_names_told : FnScope ["part", "kind", "row"] ["part", "kind"] (defScope s_names_told) := ⟨rfl, rfl, rfl, by decide +kernel, rfl, by decide +kernel, by decide +kernel⟩
abbrev s_asks_of : Stmt := topS 10
theorem sc_asks_of : FnScope ["yard", "parts", "asks", "path", "name", "_", "row", "use", "used", "terms", "door", "term"] ["yard"] (defScope s_asks_of) := ⟨rfl, rfl, rfl, by decide +kernel, rfl, by decide +kernel, by decide +kernel⟩
abbrev s_p_ring_from : Stmt := topS 12
theorem sc_p_ring_from : FnScope ["start", "asks", "done", "way", "places", "left", "name"] ["start", "asks", "done"] (defScope s_p_ring_from) := ⟨rfl, rfl, rfl, by decide +kernel, rfl, by decide +kernel, by decide +kernel⟩
abbrev s_ring_in : Stmt := topS 11
theorem sc_ring_in : FnScope ["asks", "done", "name", "ring"] ["asks"] (defScope s_ring_in) := ⟨rfl, rfl, rfl, by decide +kernel, rfl, by decide +kernel, by decide +kernel⟩
abbrev s_widths_in : Stmt := topS 5
theorem sc_widths_in : FnScope ["part", "numbers", "_", "params", "rows", "by_param", "row"] ["part", "numbers"] (defScope s_widths_in) := ⟨rfl, rfl, rfl, by decide +kernel, rfl, by decide +kernel, by decide +kernel⟩
abbrev s_L_widths_right : Stmt := topS 38
theorem sc_L_widths_right : FnScope ["_law_part_here", "_law_numbers_here", "_law_known", "_law_due", "_law_row", "_law_found"] ["_law_part_here", "_law_numbers_here"] (defScope s_L_widths_right) := ⟨rfl, rfl, rfl, by decide +kernel, rfl, by decide +kernel, by decide +kernel⟩
abbrev s_L_terms : Stmt := topS 32
theorem sc_L_terms : FnScope ["_law_row", "_law_places", "_law_at"] ["_law_row"] (defScope s_L_terms) := ⟨rfl, rfl, rfl, by decide +kernel, rfl, by decide +kernel, by decide +kernel⟩
abbrev s_L_kids_right : Stmt := topS 37
theorem sc_L_kids_right : FnScope ["_law_term_here", "_law_due", "_law_found", "_law_kid"] ["_law_term_here"] (defScope s_L_kids_right) := ⟨rfl, rfl, rfl, by decide +kernel, rfl, by decide +kernel, by decide +kernel⟩
abbrev s_law : Stmt := topS 39
theorem sc_law : FnScope ["_law_script", "_law_yard_here", "_law_made", "_law_asks_here", "_law_parts", "_law_turn", "_law_told", "_law_found", "_law_name", "_law_path", "_law_numbers_here", "_law_part_here", "_law_row", "_law_term_here"] ["_law_script"] (defScope s_law) := ⟨rfl, rfl, rfl, by decide +kernel, rfl, by decide +kernel, by decide +kernel⟩
structure Tx (K : PySem.W.Frag) (mg : Str → Option Value) : Prop where
  d_L_mixed : DX K mg "_law_mixed" s_L_mixed
  d_L_names : DX K mg "_law_names" s_L_names
  d_L_cell : DX K mg "_law_cell" s_L_cell
  d_L_next : DX K mg "_law_next" s_L_next
  d_L_width : DX K mg "_law_width" s_L_width
  d_L_word : DX K mg "_law_word" s_L_word
  d_L_first : DX K mg "_law_first" s_L_first
  d_L_heads : DX K mg "_law_heads" s_L_heads
  d_L_leaf : DX K mg "_law_leaf" s_L_leaf
  d_L_bent : DX K mg "_law_bent" s_L_bent
  d_L_term : DX K mg "_law_term" s_L_term
  d_L_used : DX K mg "_law_used" s_L_used
  d_L_wired : DX K mg "_law_wired" s_L_wired
  d_L_part : DX K mg "_law_part" s_L_part
  d_L_yard : DX K mg "_law_yard" s_L_yard
  d_L_numbers : DX K mg "_law_numbers" s_L_numbers
  d_L_walked : DX K mg "_law_walked" s_L_walked
  d_L_kids : DX K mg "_law_kids" s_L_kids
  d_L_asked : DX K mg "_law_asked" s_L_asked
  d_L_asks : DX K mg "_law_asks" s_L_asks
  d_width_number : DX K mg "width_number" s_width_number
  d_width_numbers : DX K mg "width_numbers" s_width_numbers
  d_p_made_from : DX K mg "_made_from" s_p_made_from
  d_parts_by_name : DX K mg "parts_by_name" s_parts_by_name
  d_made_parts : DX K mg "made_parts" s_made_parts
  d_kids_of : DX K mg "kids_of" s_kids_of
  d_p_names_in : DX K mg "_names_in" s_p_names_in
  d_p_asked_by : DX K mg "_asked_by" s_p_asked_by
  d_names_told : DX K mg "names_told" s_names_told
  d_asks_of : DX K mg "asks_of" s_asks_of
  d_p_ring_from : DX K mg "_ring_from" s_p_ring_from
  d_ring_in : DX K mg "ring_in" s_ring_in
  d_widths_in : DX K mg "widths_in" s_widths_in
  d_L_widths_right : DX K mg "_law_widths_right" s_L_widths_right
  d_L_terms : DX K mg "_law_terms" s_L_terms
  d_L_kids_right : DX K mg "_law_kids_right" s_L_kids_right
  d_law : DX K mg "law" s_law
  n_all : mg "all" = none
  n_dict : mg "dict" = none
  n_int : mg "int" = none
  n_isinstance : mg "isinstance" = none
  n_len : mg "len" = none
  n_list : mg "list" = none
  n_range : mg "range" = none
  n_repr : mg "repr" = none
  n_reversed : mg "reversed" = none
  n_tuple : mg "tuple" = none
  n_zip : mg "zip" = none
section
variable {P : Program} {w : World} {K : PySem.W.Frag} {mg : Str → Option Value} {base : Heap}
theorem ok_L_mixed (T : Tx K mg) : Cal P w K mg base 1 "_law_mixed" sp_L_mixed :=
  cal_mk (t := rd_L_mixed) T.d_L_mixed sc_L_mixed (fun _ _ _ _ _ _ us hl => match us, hl with | [_, _], _ => rfl) len_L_mixed
    (fun f cdv A outer s H E hr => (pss_one (ps_ret (pe_op op_fdiv (pe_op op_mod (pe_op op_mul (pe_op op_mod (pe_op op_mul (pe_op op_add (pe_op op_add (pe_op op_add (pv 0) (pe_op op_mul (pe_op op_mul pe_int (pv 1)) (pv 1))) (pe_op op_mul pe_int (pv 1))) pe_int) pe_int) pe_int) pe_int) pe_int) pe_int))))
    (fun vs H Q E h => vr_L_mixed vs H Q E h)
theorem ok_L_names (T : Tx K mg) : Cal P w K mg base 2 "_law_names" (sp_L_names K) :=
  cal_mk (t := (rd_L_names K)) T.d_L_names sc_L_names (fun _ _ _ _ _ _ us hl => match us, hl with | [_], _ => rfl) len_L_names
    (fun f cdv A outer s H E hr => (pss_cons (ps_set (i := 1) sc_L_names.nd rfl (.inr rfl) pe_str)
    (pss_cons (ps_set (i := 2) sc_L_names.nd rfl (.inr rfl) (pe_bm PySem.F.plainAttrs_str PySem.F.slot_str_join PySem.F.type_str_join mt_join pe_str (pa_cons (pe_lc (own := [("_law_j", 11)]) (g := (gName 11)) (tt := tYes) rfl sc_L_names.nd (pi_range1 (by rfl) T.n_range (pa_cons pe_int pa_nil)) (blkOk_by (N := ["_law_number", "_law_letters", "_law_base", "_law_size", "_law_at", "_law_signs", "_law_some", "_law_found", "_law_first_here", "_law_other", "_law_told", "_law_j", "_law_k", "_law_sign", "_law_name"]) (sc := defScope s_L_names) (by decide +kernel)) (fun _ _ _ _ _ => (pg_name (i := 11) sc_L_names.nd rfl (.inl rfl))) (fun _ _ _ _ _ => pts_nil) (fun _ _ _ _ _ => (pe_ix ix_str (pv 1) (pe_op op_mod (pe_c (ok_L_mixed T) hr (by decide) (by rfl) (pa_cons (pv 0) (pa_cons (pv 11) pa_nil))) pe_int) (fun _ _ => rfl)))) pa_nil)))
    (Evl.pss_cut (ps_if (pt_cmpR op_lt (pe_op op_mod (pv 0) pe_int) pe_int (nomark _)) (pss_cons (ps_set (i := 3) sc_L_names.nd rfl (.inr rfl) (pe_op op_add pe_int (pe_op op_mod (pe_op op_fdiv (pv 0) pe_int) pe_int)))
    (pss_cons (ps_set (i := 4) sc_L_names.nd rfl (.inr rfl) (pe_op op_mod (pe_op op_fdiv (pv 0) pe_int) (pv 3)))
    (Evl.pss_cut (ps_set (i := 5) sc_L_names.nd rfl (.inr rfl) (pe_ifExp (pt_cmpR op_eq (pv 4) pe_int (nomark _)) (pv 1) (pe_op op_add_str (pv 1) pe_str)))
    (pss_cons (ps_setLc (i := 6) (own := [("_law_k", 12)]) (g := (gName 12)) (tt := tYes) rfl sc_L_names.nd rfl rfl (sw_true rfl rfl rfl (by decide +kernel)) (pi_range1 (by rfl) T.n_range (pa_cons pe_int pa_nil)) (blkOk_by (N := ["_law_number", "_law_letters", "_law_base", "_law_size", "_law_at", "_law_signs", "_law_some", "_law_found", "_law_first_here", "_law_other", "_law_told", "_law_j", "_law_k", "_law_sign", "_law_name"]) (sc := defScope s_L_names) (by decide +kernel)) (fun _ _ _ _ _ => (pg_name (i := 12) sc_L_names.nd rfl (.inl rfl))) (fun _ _ _ _ _ => pts_nil) (fun _ _ _ _ _ => (pe_ix ix_str (pv 5) (pe_op op_mod (pe_op op_add (pe_op op_fdiv (pv 0) pe_int) (pe_op op_mul pe_int (pv 12))) (pe_callB call_len_str (by rfl) T.n_len (by decide +kernel) (pa_cons (pv 5) pa_nil))) (fun _ _ => rfl))))
    (pss_one (ps_setLc (i := 7) (own := [("_law_sign", 13)]) (g := (gName 13)) (tt := tYes) rfl sc_L_names.nd rfl rfl (sw_true rfl rfl rfl (by decide +kernel)) (pi_list (pv 6)) (blkOk_by (N := ["_law_number", "_law_letters", "_law_base", "_law_size", "_law_at", "_law_signs", "_law_some", "_law_found", "_law_first_here", "_law_other", "_law_told", "_law_j", "_law_k", "_law_sign", "_law_name"]) (sc := defScope s_L_names) (by decide +kernel)) (fun _ _ _ _ _ => (pg_name (i := 13) sc_L_names.nd rfl (.inl rfl))) (fun _ _ _ _ _ => pts_nil) (fun _ _ _ _ _ => (pe_op op_add_str (pe_op op_add_str (pe_slice sl_str (pv 2) po_none (po_some (pv 4))) (pv 13)) (pe_slice sl_str (pv 2) (po_some (pe_op op_add (pv 4) pe_int)) (po_some (pv 3)))))))))))
    (pss_one (ps_if (pt_cmpR op_eq (pe_op op_mod (pv 0) pe_int) pe_int (nomark _)) (pss_cons (ps_set (i := 8) sc_L_names.nd rfl (.inl rfl) (pe_op op_add (pe_op op_add (pe_bm PySem.F.plainAttrs_str PySem.F.slot_str_index PySem.F.type_str_index mt_sindex (pv 1) (pa_cons (pe_ix ix_str (pv 2) pe_int (fun _ _ => rfl)) pa_nil)) pe_int) (pe_op op_mod (pe_op op_fdiv (pv 0) pe_int) pe_int)))
    (pss_cons (ps_set (i := 9) sc_L_names.nd rfl (.inr rfl) (pe_op op_add_str (pe_ix ix_str (pv 1) (pe_op op_mod (pv 8) pe_int) (fun _ _ => rfl)) (pe_slice sl_str (pv 2) (po_some pe_int) po_none)))
    (pss_cons (ps_setLc (i := 7) (own := [("_law_k", 12)]) (g := (gName 12)) (tt := tYes) rfl sc_L_names.nd rfl rfl (sw_true rfl rfl rfl (by decide +kernel)) (pi_range1 (by rfl) T.n_range (pa_cons pe_int pa_nil)) (blkOk_by (N := ["_law_number", "_law_letters", "_law_base", "_law_size", "_law_at", "_law_signs", "_law_some", "_law_found", "_law_first_here", "_law_other", "_law_told", "_law_j", "_law_k", "_law_sign", "_law_name"]) (sc := defScope s_L_names) (by decide +kernel)) (fun _ _ _ _ _ => (pg_name (i := 12) sc_L_names.nd rfl (.inl rfl))) (fun _ _ _ _ _ => pts_nil) (fun _ _ _ _ _ => (pe_slice sl_str (pv 2) po_none (po_some (pe_op op_add (pv 12) pe_int)))))
    (pss_one (ps_set (i := 7) sc_L_names.nd rfl (.inl rfl) (pe_op op_cat (pv 7) (pe_lc (own := [("_law_k", 12)]) (g := (gName 12)) (tt := tYes) rfl sc_L_names.nd (pi_range1 (by rfl) T.n_range (pa_cons pe_int pa_nil)) (blkOk_by (N := ["_law_number", "_law_letters", "_law_base", "_law_size", "_law_at", "_law_signs", "_law_some", "_law_found", "_law_first_here", "_law_other", "_law_told", "_law_j", "_law_k", "_law_sign", "_law_name"]) (sc := defScope s_L_names) (by decide +kernel)) (fun _ _ _ _ _ => (pg_name (i := 12) sc_L_names.nd rfl (.inl rfl))) (fun _ _ _ _ _ => pts_nil) (fun _ _ _ _ _ => (pe_slice sl_str (pv 9) po_none (po_some (pe_op op_add (pv 12) pe_int)))))))))))
    (pss_one (ps_setLc (i := 7) (own := [("_law_k", 12)]) (g := (gName 12)) (tt := tYes) rfl sc_L_names.nd rfl rfl (sw_true rfl rfl rfl (by decide +kernel)) (pi_range1 (by rfl) T.n_range (pa_cons pe_int pa_nil)) (blkOk_by (N := ["_law_number", "_law_letters", "_law_base", "_law_size", "_law_at", "_law_signs", "_law_some", "_law_found", "_law_first_here", "_law_other", "_law_told", "_law_j", "_law_k", "_law_sign", "_law_name"]) (sc := defScope s_L_names) (by decide +kernel)) (fun _ _ _ _ _ => (pg_name (i := 12) sc_L_names.nd rfl (.inl rfl))) (fun _ _ _ _ _ => pts_nil) (fun _ _ _ _ _ => (pe_ix ix_str (pv 1) (pe_op op_mod (pe_op op_add (pe_op op_fdiv (pv 0) pe_int) (pe_op op_mul pe_int (pv 12))) pe_int) (fun _ _ => rfl))))))))
    (pss_cons (ps_set (i := 10) sc_L_names.nd rfl (.inr rfl) (pe_bm PySem.F.plainAttrs_str PySem.F.slot_str_split PySem.F.type_str_split mt_split pe_str (pa_cons pe_str pa_nil)))
    (pss_cons (ps_if (pt_cmpR (op_neD (hu64 hr)) (pe_lc (own := [("_law_name", 14)]) (g := (gName 14)) (tt := (tTest (tOp (rIn K false) (tVar 14) (tVar 10)))) rfl sc_L_names.nd (pi_list (pv 7)) (blkOk_by (N := ["_law_number", "_law_letters", "_law_base", "_law_size", "_law_at", "_law_signs", "_law_some", "_law_found", "_law_first_here", "_law_other", "_law_told", "_law_j", "_law_k", "_law_sign", "_law_name"]) (sc := defScope s_L_names) (by decide +kernel)) (fun _ _ _ _ _ => (pg_name (i := 14) sc_L_names.nd rfl (.inl rfl))) (fun _ _ _ _ _ => (pts_one (pt_cmpR op_in_seq (pv 14) (pv 10) (by with_unfolding_all rfl)))) (fun _ _ _ _ _ => (pv 14))) (pe_lst pa_nil) (nomark _)) (pss_one (ps_ret (pe_lc (own := [("_law_k", 12)]) (g := (gName 12)) (tt := tYes) rfl sc_L_names.nd (pi_range1 (by rfl) T.n_range (pa_cons pe_int pa_nil)) (blkOk_by (N := ["_law_number", "_law_letters", "_law_base", "_law_size", "_law_at", "_law_signs", "_law_some", "_law_found", "_law_first_here", "_law_other", "_law_told", "_law_j", "_law_k", "_law_sign", "_law_name"]) (sc := defScope s_L_names) (by decide +kernel)) (fun _ _ _ _ _ => (pg_name (i := 12) sc_L_names.nd rfl (.inl rfl))) (fun _ _ _ _ _ => pts_nil) (fun _ _ _ _ _ => (pe_op op_add_str pe_str (pe_ix ix_str (pv 1) (pv 12) (fun _ _ => rfl)))))))
    pss_nil)
    (pss_one (ps_ret (pv 7)))))))))
    (fun vs H Q E h => vr_L_names vs H Q E h)
theorem ok_L_cell (T : Tx K mg) : Cal P w K mg base 1 "_law_cell" (sp_L_cell K) :=
  cal_mk (t := (rd_L_cell K)) T.d_L_cell sc_L_cell (fun _ _ _ _ _ _ us hl => match us, hl with | [_, _], _ => rfl) len_L_cell
    (fun f cdv A outer s H E hr => (pss_cons (ps_set (i := 2) sc_L_cell.nd rfl (.inl rfl) pe_int)
    (pss_cons (ps_if (pt_cmpR op_gt (pe_callB call_len_seq (by rfl) T.n_len (by decide +kernel) (pa_cons (pv 0) pa_nil)) pe_int (nomark _)) (pss_one (ps_set (i := 2) sc_L_cell.nd rfl (.inl rfl) (pe_op op_mod (pe_ix ix_list (pv 0) (pe_op op_mod (pv 1) (pe_callB call_len_seq (by rfl) T.n_len (by decide +kernel) (pa_cons (pv 0) pa_nil))) (fun _ _ => rfl)) pe_int)))
    pss_nil)
    (pss_one (ps_ret (pe_op op_fdiv (pe_op op_mod (pe_op op_mul (pe_op op_mod (pe_op op_mul (pe_op op_add (pe_op op_add (pv 2) (pe_op op_mul (pe_op op_mul pe_int (pv 1)) (pv 1))) (pe_op op_mul pe_int (pv 1))) pe_int) pe_int) pe_int) pe_int) pe_int))))))
    (fun vs H Q E h => vr_L_cell vs H Q E h)
theorem ok_L_next (T : Tx K mg) : Cal P w K mg base 2 "_law_next" (sp_L_next K) :=
  cal_mk (t := (rd_L_next K)) T.d_L_next sc_L_next (fun _ _ _ _ _ _ us hl => match us, hl with | [_], _ => rfl) len_L_next
    (fun f cdv A outer s H E hr => (pss_cons (ps_asg (pe_op op_add (pe_ix ix_list (pv 0) pe_int (fun _ _ => rfl)) pe_int) (pg_sub (pv 0) pe_int set_list))
    (pss_one (ps_ret (pe_c (ok_L_cell T) hr (by decide) (by rfl) (pa_cons (pe_ix ix_list (pv 0) pe_int (fun _ _ => rfl)) (pa_cons (pe_ix ix_list (pv 0) pe_int (fun _ _ => rfl)) pa_nil)))))))
    (fun vs H Q E h => vr_L_next vs H Q E h)
theorem ok_L_width (T : Tx K mg) : Cal P w K mg base 3 "_law_width" (sp_L_width K) :=
  cal_mk (t := (rd_L_width K)) T.d_L_width sc_L_width (fun _ _ _ _ _ _ us hl => match us, hl with | [_, _], _ => rfl) len_L_width
    (fun f cdv A outer s H E hr => (pss_cons (ps_set (i := 2) sc_L_width.nd rfl (.inl rfl) (pe_c (ok_L_next T) hr (by decide) (by rfl) (pa_cons (pv 0) pa_nil)))
    (pss_cons (ps_if (PW.pt (pw_and (pt_cmpR (op_neD (hu64 hr)) (pv 1) (pe_lst pa_nil) (nomark _)) (pw_and1 (pt_cmpR op_eq (pe_op op_mod (pv 2) pe_int) pe_int (nomark _))))) (pss_one (ps_ret (pe_tup (pa_cons (pe_ix ix_list (pv 1) (pe_op op_mod (pe_op op_fdiv (pv 2) pe_int) (pe_callB call_len_seq (by rfl) T.n_len (by decide +kernel) (pa_cons (pv 1) pa_nil))) (fun _ _ => rfl)) (pa_cons (pe_op op_sub (pe_op op_mod (pe_op op_fdiv (pv 2) pe_int) pe_int) pe_int) pa_nil)))))
    pss_nil)
    (pss_one (ps_ret (pe_tup (pa_cons pe_str (pa_cons (pe_ix ix_list (pe_lst (pa_cons pe_int (pa_cons pe_int (pa_cons pe_int (pa_cons pe_int (pa_cons pe_int (pa_cons pe_int (pa_cons pe_int (pa_cons (pe_op op_add pe_int (pe_op op_mod (pe_op op_fdiv (pv 2) pe_int) pe_int)) pa_nil))))))))) (pe_op op_mod (pe_op op_fdiv (pv 2) pe_int) pe_int) (fun _ _ => rfl)) pa_nil))))))))
    (fun vs H Q E h => vr_L_width vs H Q E h)
theorem ok_L_word (T : Tx K mg) : Cal P w K mg base 2 "_law_word" sp_L_word :=
  cal_mk (t := (rd_L_word K)) T.d_L_word sc_L_word (fun _ _ _ _ _ _ us hl => match us, hl with | [_, _], _ => rfl) len_L_word
    (fun f cdv A outer s H E hr => (pss_cons (ps_set (i := 2) sc_L_word.nd rfl (.inl rfl) (pe_op op_sub (pe_op op_shlW pe_int (pv 1)) pe_int))
    (pss_cons (ps_set (i := 3) sc_L_word.nd rfl (.inl rfl) pe_int)
    (pss_cons (ps_for PassesOwn.never rfl (pi_range1 (by rfl) T.n_range (pa_cons pe_int pa_nil)) (pg_name (i := 4) sc_L_word.nd rfl (.inl rfl)) (pss_one (ps_set (i := 3) sc_L_word.nd rfl (.inl rfl) (pe_op op_or (pe_op op_shlW (pv 3) pe_int) (pe_c (ok_L_mixed T) hr (by decide) (by rfl) (pa_cons (pv 0) (pa_cons (pv 4) pa_nil)))))))
    (pss_cons (ps_par rfl sc_L_word.nd rfl rfl (by decide) rfl rfl (pa_cons (pe_op op_and (pe_op op_mod (pv 3) pe_int) (pv 2)) (pa_cons (pe_op op_and (pv 3) (pv 2)) pa_nil)) (by rfl))
    (pss_one (ps_ret (pe_ix ix_list (pe_lst (pa_cons pe_int (pa_cons (pv 2) (pa_cons (pv 3) (pa_cons pe_int (pa_cons (pv 3) (pa_cons (pe_op op_sub (pv 2) pe_int) (pa_cons (pv 3) (pa_cons (pv 5) pa_nil))))))))) (pe_op op_mod (pv 0) pe_int) (fun _ _ => rfl)))))))))
    (fun vs H Q E h => vr_L_word vs H Q E h)
theorem ok_L_first (T : Tx K mg) : Cal P w K mg base 3 "_law_first" (sp_L_first K) :=
  cal_mk (t := (rd_L_first K)) T.d_L_first sc_L_first (fun _ _ _ _ _ _ us hl => match us, hl with | [_, _], _ => rfl) len_L_first
    (fun f cdv A outer s H E hr => (pss_one (ps_ret (pe_ifExp (pt_cmpR op_ne (pe_ix ix_tup (pv 1) pe_int (fun _ _ => rfl)) pe_str (nomark _)) (pe_op op_mod (pv 0) pe_int) (pe_c (ok_L_word T) hr (by decide) (by rfl) (pa_cons (pv 0) (pa_cons (pe_ix ix_tup (pv 1) pe_int (fun _ _ => rfl)) pa_nil)))))))
    (fun vs H Q E h => vr_L_first vs H Q E h)
theorem ok_L_heads (T : Tx K mg) : Cal P w K mg base 4 "_law_heads" (sp_L_heads K) :=
  cal_mk (t := (rd_L_heads K)) T.d_L_heads sc_L_heads (fun _ _ _ _ _ _ us hl => match us, hl with | [_, _, _, _], _ => rfl) len_L_heads
    (fun f cdv A outer s H E hr => (pss_cons (ps_set (i := 4) sc_L_heads.nd rfl (.inl rfl) (pe_c (ok_L_next T) hr (by decide) (by rfl) (pa_cons (pv 0) pa_nil)))
    (pss_cons (ps_set (i := 5) sc_L_heads.nd rfl (.inl rfl) (pe_lst pa_nil))
    (pss_cons (ps_for PassesOwn.never rfl (pi_range1 (by rfl) T.n_range (pa_cons (pe_ix ix_list (pe_lst (pa_cons pe_int (pa_cons pe_int (pa_cons pe_int (pa_cons pe_int (pa_cons pe_int pa_nil)))))) (pe_op op_mod (pv 4) pe_int) (fun _ _ => rfl)) pa_nil)) (pg_name (i := 6) sc_L_heads.nd rfl (.inl rfl)) (pss_one (ps_expr (pe_bm PySem.F.plainAttrs_list PySem.F.slot_list_append PySem.F.type_list_append mt_append (pv 5) (pa_cons (pe_tup (pa_cons pe_str (pa_cons (pe_bm PySem.F.plainAttrs_list PySem.F.slot_list_pop PySem.F.type_list_pop mt_popAt (pv 1) (pa_cons pe_int pa_nil)) (pa_cons (pe_c (ok_L_width T) hr (by decide) (by rfl) (pa_cons (pv 0) (pa_cons (pv 2) pa_nil))) pa_nil)))) pa_nil)))))
    (pss_cons (ps_for PassesOwn.never rfl (pi_range1 (by rfl) T.n_range (pa_cons (pe_ix ix_list (pe_lst (pa_cons pe_int (pa_cons pe_int (pa_cons pe_int (pa_cons pe_int pa_nil))))) (pe_op op_mod (pe_op op_fdiv (pv 4) pe_int) pe_int) (fun _ _ => rfl)) pa_nil)) (pg_name (i := 6) sc_L_heads.nd rfl (.inl rfl)) (pss_cons (ps_set (i := 7) sc_L_heads.nd rfl (.inr rfl) (pe_c (ok_L_width T) hr (by decide) (by rfl) (pa_cons (pv 0) (pa_cons (pv 2) pa_nil))))
    (pss_one (ps_expr (pe_bm PySem.F.plainAttrs_list PySem.F.slot_list_append PySem.F.type_list_append mt_append (pv 5) (pa_cons (pe_tup (pa_cons pe_str (pa_cons (pe_bm PySem.F.plainAttrs_list PySem.F.slot_list_pop PySem.F.type_list_pop mt_popAt (pv 1) (pa_cons pe_int pa_nil)) (pa_cons (pv 7) (pa_cons (pe_c (ok_L_first T) hr (by decide) (by rfl) (pa_cons (pe_c (ok_L_next T) hr (by decide) (by rfl) (pa_cons (pv 0) pa_nil)) (pa_cons (pv 7) pa_nil))) pa_nil))))) pa_nil))))))
    (pss_cons (ps_for PassesOwn.never rfl (pi_range1 (by rfl) T.n_range (pa_cons (pe_ix ix_list (pe_lst (pa_cons pe_int (pa_cons pe_int (pa_cons pe_int (pa_cons pe_int pa_nil))))) (pe_op op_mod (pe_op op_fdiv (pv 4) pe_int) pe_int) (fun _ _ => rfl)) pa_nil)) (pg_name (i := 6) sc_L_heads.nd rfl (.inl rfl)) (pss_cons (ps_set (i := 7) sc_L_heads.nd rfl (.inr rfl) (pe_c (ok_L_width T) hr (by decide) (by rfl) (pa_cons (pv 0) (pa_cons (pv 2) pa_nil))))
    (pss_cons (ps_set (i := 8) sc_L_heads.nd rfl (.inr rfl) (pe_c (ok_L_next T) hr (by decide) (by rfl) (pa_cons (pv 0) pa_nil)))
    (pss_cons (ps_set (i := 9) sc_L_heads.nd rfl (.inl rfl) (pe_op op_add (pe_op op_add pe_int (pe_op op_mod (pe_op op_fdiv (pv 8) pe_int) pe_int)) (pe_op op_mul pe_int (pe_callTy call_int1 (by rfl) T.n_int (by decide +kernel) (pa_cons (pe_cmpR op_eq (pe_op op_mod (pe_op op_fdiv (pv 8) pe_int) pe_int) pe_int (nomark _)) pa_nil)))))
    (pss_one (ps_if (pt_cmpR op_eq (pe_op op_mod (pv 8) pe_int) pe_int (nomark _)) (pss_cons (ps_set (i := 10) sc_L_heads.nd rfl (.inl rfl) (pe_callTy call_tuple_of (by rfl) T.n_tuple (by decide +kernel) (pa_cons (pe_lc (own := [("_law_j", 12)]) (g := (gName 12)) (tt := tYes) rfl sc_L_heads.nd (pi_range1 (by rfl) T.n_range (pa_cons (pv 9) pa_nil)) (blkOk_by (N := ["_law_draw", "_law_names_here", "_law_params", "_law_has", "_law_number", "_law_rows", "_law_k", "_law_width_here", "_law_more", "_law_size", "_law_some", "_law_row", "_law_j"]) (sc := defScope s_L_heads) (by decide +kernel)) (fun _ _ _ _ _ => (pg_name (i := 12) sc_L_heads.nd rfl (.inl rfl))) (fun _ _ _ _ _ => pts_nil) (fun _ _ _ _ _ => (pe_c (ok_L_first T) hr (by decide) (by rfl) (pa_cons (pe_c (ok_L_mixed T) hr (by decide) (by rfl) (pa_cons (pv 8) (pa_cons (pv 12) pa_nil))) (pa_cons (pv 7) pa_nil))))) pa_nil)))
    (pss_one (ps_expr (pe_bm PySem.F.plainAttrs_list PySem.F.slot_list_append PySem.F.type_list_append mt_append (pv 5) (pa_cons (pe_tup (pa_cons pe_str (pa_cons (pe_bm PySem.F.plainAttrs_list PySem.F.slot_list_pop PySem.F.type_list_pop mt_popAt (pv 1) (pa_cons pe_int pa_nil)) (pa_cons (pv 7) (pa_cons (pv 10) pa_nil))))) pa_nil)))))
    (pss_one (ps_expr (pe_bm PySem.F.plainAttrs_list PySem.F.slot_list_append PySem.F.type_list_append mt_append (pv 5) (pa_cons (pe_tup (pa_cons pe_str (pa_cons (pe_bm PySem.F.plainAttrs_list PySem.F.slot_list_pop PySem.F.type_list_pop mt_popAt (pv 1) (pa_cons pe_int pa_nil)) (pa_cons (pv 7) (pa_cons (pv 9) pa_nil))))) pa_nil))))))))))
    (pss_cons (ps_for PassesOwn.never rfl (pi_list (pv 5)) (pg_name (i := 11) sc_L_heads.nd rfl (.inl rfl)) (pss_one (ps_if (pt_cmpR op_in_seq (pe_ix ix_tup (pv 11) pe_int (fun _ _ => rfl)) (pe_tup (pa_cons pe_str (pa_cons pe_str pa_nil))) (by with_unfolding_all rfl)) (pss_one (ps_expr (pe_bm PySem.F.plainAttrs_list PySem.F.slot_list_append PySem.F.type_list_append mt_append (pe_ix ix_tup (pv 3) pe_int (fun _ _ => rfl)) (pa_cons (pe_tup (pa_cons (pe_tup (pa_cons pe_str (pa_cons (pe_ix ix_tup (pv 11) pe_int (fun _ _ => rfl)) pa_nil))) (pa_cons (pe_ix ix_tup (pv 11) pe_int (fun _ _ => rfl)) pa_nil))) pa_nil))))
    (pss_one (ps_expr (pe_bm PySem.F.plainAttrs_list PySem.F.slot_list_append PySem.F.type_list_append mt_append (pe_ix ix_tup (pv 3) pe_int (fun _ _ => rfl)) (pa_cons (pe_tup (pa_cons (pe_ix ix_tup (pv 11) pe_int (fun _ _ => rfl)) (pa_cons (pe_ix ix_tup (pv 11) pe_int (fun _ _ => rfl)) pa_nil))) pa_nil)))))))
    (pss_one (ps_ret (pv 5))))))))))
    (fun vs H Q E h => vr_L_heads vs H Q E h)
theorem ok_L_leaf (T : Tx K mg) : Cal P w K mg base 4 "_law_leaf" (sp_L_leaf K) :=
  cal_mk (t := (rd_L_leaf K)) T.d_L_leaf sc_L_leaf (fun _ _ _ _ _ _ us hl => match us, hl with | [_, _, _], _ => rfl) len_L_leaf
    (fun f cdv A outer s H E hr => (pss_cons (ps_set (i := 3) sc_L_leaf.nd rfl (.inl rfl) (pe_c (ok_L_next T) hr (by decide) (by rfl) (pa_cons (pv 0) pa_nil)))
    (pss_cons (ps_setLc (i := 4) (own := [("_law_term_here", 5), ("_law_wide", 6)]) (g := (gTup K 2 (gCons (gName 5) (gCons (gName 6) gNil)))) (tt := (tTest (tOp (rEqD K) (tVar 6) (tVar 2)))) rfl sc_L_leaf.nd rfl rfl (sw_true rfl rfl rfl (by decide +kernel)) (pi_list (pv 1)) (blkOk_by (N := ["_law_draw", "_law_words", "_law_width_here", "_law_number", "_law_fits", "_law_term_here", "_law_wide"]) (sc := defScope s_L_leaf) (by decide +kernel)) (fun _ _ _ _ _ => (pg_tup rfl (pgs_cons (pg_name (i := 5) sc_L_leaf.nd rfl (.inl rfl)) (pgs_cons (pg_name (i := 6) sc_L_leaf.nd rfl (.inl rfl)) pgs_nil)))) (fun _ _ _ _ _ => (pts_one (pt_cmpR (op_eqD (hu64 hr)) (pv 6) (pv 2) (nomark _)))) (fun _ _ _ _ _ => (pv 5)))
    (pss_cons (ps_if (PW.pt (pw_and (pt_cmpR (op_neD (hu64 hr)) (pv 4) (pe_lst pa_nil) (nomark _)) (pw_and1 (pt_cmpR op_gt (pe_op op_mod (pv 3) pe_int) pe_int (nomark _))))) (pss_one (ps_ret (pe_ix ix_list (pv 4) (pe_op op_mod (pe_op op_fdiv (pv 3) pe_int) (pe_callB call_len_seq (by rfl) T.n_len (by decide +kernel) (pa_cons (pv 4) pa_nil))) (fun _ _ => rfl))))
    pss_nil)
    (pss_one (ps_ret (pe_tup (pa_cons pe_str (pa_cons (pe_c (ok_L_first T) hr (by decide) (by rfl) (pa_cons (pe_op op_fdiv (pv 3) pe_int) (pa_cons (pv 2) pa_nil))) (pa_cons (pv 2) pa_nil))))))))))
    (fun vs H Q E h => vr_L_leaf vs H Q E h)
theorem ok_L_bent (T : Tx K mg) {n k : Nat} (r_L_term : Cal P w K mg base k "_law_term" (sp_L_term K n)) (hk : 4 ≤ k) : Cal P w K mg base (k + 1) "_law_bent" (sp_L_bent K n) :=
  cal_mk (t := (rd_L_bent K (sp_L_term K n))) T.d_L_bent sc_L_bent (fun _ _ _ _ _ _ us hl => match us, hl with | [_, _, _, _, _], _ => rfl) (len_L_bent)
    (fun f cdv A outer s H E hr => (pss_cons (ps_set (i := 5) sc_L_bent.nd rfl (.inl rfl) (pe_tup (pa_cons pe_str (pa_cons (pe_op op_add pe_int (pe_op op_mod (pe_op op_fdiv (pv 4) pe_int) pe_int)) pa_nil))))
    (Evl.pss_cut (ps_if (PW.pt (pw_and (pt_cmpR op_eq (pe_op op_mod (pv 4) pe_int) pe_int (nomark _)) (pw_and1 (pt_cmpR (op_neD (hu64 hr)) (pe_ix ix_tup (pv 1) pe_int (fun _ _ => rfl)) (pe_lst pa_nil) (nomark _))))) (pss_one (ps_set (i := 5) sc_L_bent.nd rfl (.inl rfl) (pe_ix ix_tup (pe_ix ix_list (pe_ix ix_tup (pv 1) pe_int (fun _ _ => rfl)) (pe_op op_mod (pe_op op_fdiv (pv 4) pe_int) (pe_callB call_len_seq (by rfl) T.n_len (by decide +kernel) (pa_cons (pe_ix ix_tup (pv 1) pe_int (fun _ _ => rfl)) pa_nil))) (fun _ _ => rfl)) pe_int (fun _ _ => rfl))))
    pss_nil)
    (pss_cons (ps_set (i := 6) sc_L_bent.nd rfl (.inl rfl) (pe_c r_L_term hr (by omega) (by rfl) (pa_cons (pv 0) (pa_cons (pv 1) (pa_cons (pv 5) (pa_cons (pv 3) pa_nil))))))
    (pss_cons (ps_if (pt_cmpR (op_eqD (hu64 hr)) (pv 2) (pe_tup (pa_cons pe_str (pa_cons pe_int pa_nil))) (nomark _)) (pss_cons (ps_if (pt_cmpR op_eq (pe_op op_mod (pe_op op_fdiv (pv 4) pe_int) pe_int) pe_int (nomark _)) (pss_one (ps_ret (pe_tup (pa_cons pe_str (pa_cons (pe_ix ix_list (pe_lst (pa_cons pe_str (pa_cons pe_str pa_nil))) (pe_op op_mod (pe_op op_fdiv (pv 4) pe_int) pe_int) (fun _ _ => rfl)) (pa_cons (pv 6) (pa_cons (pe_c r_L_term hr (by omega) (by rfl) (pa_cons (pv 0) (pa_cons (pv 1) (pa_cons (pv 5) (pa_cons (pv 3) pa_nil))))) pa_nil)))))))
    pss_nil)
    (pss_one (ps_ret (pe_tup (pa_cons pe_str (pa_cons (pv 6) (pa_cons (pe_ifExp (pt_cmpR op_ne (pe_ix ix_tup (pv 5) pe_int (fun _ _ => rfl)) pe_str (nomark _)) pe_int (pe_op op_mod (pe_op op_fdiv (pv 4) pe_int) (pe_ix ix_tup (pv 5) pe_int (fun _ _ => rfl)))) (pa_cons (pv 2) pa_nil))))))))
    pss_nil)
    (pss_cons (ps_if (pt_cmpR op_ne (pe_ix ix_tup (pv 2) pe_int (fun _ _ => rfl)) pe_str (nomark _)) (pss_one (ps_ret (pe_tup (pa_cons pe_str (pa_cons (pe_c (ok_L_leaf T) hr (by omega) (by rfl) (pa_cons (pv 0) (pa_cons (pe_ix ix_tup (pv 1) pe_int (fun _ _ => rfl)) (pa_cons (pe_tup (pa_cons pe_str (pa_cons pe_int pa_nil))) pa_nil)))) (pa_cons (pv 2) pa_nil))))))
    pss_nil)
    (pss_cons (ps_if (pt_cmpR op_ne (pe_ix ix_tup (pv 5) pe_int (fun _ _ => rfl)) pe_str (nomark _)) (pss_one (ps_ret (pe_tup (pa_cons pe_str (pa_cons pe_str (pa_cons (pe_c (ok_L_leaf T) hr (by omega) (by rfl) (pa_cons (pv 0) (pa_cons (pe_ix ix_tup (pv 1) pe_int (fun _ _ => rfl)) (pa_cons (pv 2) pa_nil)))) (pa_cons (pe_c r_L_term hr (by omega) (by rfl) (pa_cons (pv 0) (pa_cons (pv 1) (pa_cons (pv 2) (pa_cons (pv 3) pa_nil))))) pa_nil)))))))
    pss_nil)
    (pss_cons (ps_if (PW.pt (pw_and (pt_cmpR op_lt (pe_ix ix_tup (pv 5) pe_int (fun _ _ => rfl)) (pe_ix ix_tup (pv 2) pe_int (fun _ _ => rfl)) (nomark _)) (pw_and1 (pt_cmpR op_eq (pe_op op_mod (pe_op op_fdiv (pv 4) pe_int) pe_int) pe_int (nomark _))))) (pss_one (ps_ret (pe_tup (pa_cons pe_str (pa_cons (pv 6) (pa_cons (pe_c r_L_term hr (by omega) (by rfl) (pa_cons (pv 0) (pa_cons (pv 1) (pa_cons (pe_tup (pa_cons pe_str (pa_cons (pe_op op_sub (pe_ix ix_tup (pv 2) pe_int (fun _ _ => rfl)) (pe_ix ix_tup (pv 5) pe_int (fun _ _ => rfl))) pa_nil))) (pa_cons (pv 3) pa_nil))))) pa_nil))))))
    pss_nil)
    (pss_cons (ps_if (pt_cmpR op_le (pe_ix ix_tup (pv 5) pe_int (fun _ _ => rfl)) (pe_ix ix_tup (pv 2) pe_int (fun _ _ => rfl)) (nomark _)) (pss_one (ps_ret (pe_tup (pa_cons pe_str (pa_cons (pv 6) (pa_cons (pv 2) pa_nil))))))
    pss_nil)
    (pss_one (ps_ret (pe_tup (pa_cons pe_str (pa_cons (pv 6) (pa_cons (pe_op op_mod (pe_op op_fdiv (pv 4) pe_int) (pe_op op_add (pe_op op_sub (pe_ix ix_tup (pv 5) pe_int (fun _ _ => rfl)) (pe_ix ix_tup (pv 2) pe_int (fun _ _ => rfl))) pe_int)) (pa_cons (pv 2) pa_nil))))))))))))))))
    (fun vs H Q E h => vr_L_bent n vs H Q E h)
theorem okr_L_term (T : Tx K mg) : ∀ n : Nat, Cal P w K mg base (4 + 2 * n) "_law_term" (sp_L_term K n)
  | 0 => ZN.cal_no (ps := ["_law_draw", "_law_has", "_law_width_here", "_law_deep"]) T.d_L_term (fun _ _ _ _ _ _ us hl => match us, hl with | [_, _, _, _], _ => rfl) no_L_term
  | n + 1 => by
    have r_L_term := okr_L_term T n
    have r_L_bent := ok_L_bent T r_L_term (by omega)
    exact (cal_mk (k := 4 + 2 * n + 1) (t := (rd_L_term K (sp_L_term K n) (sp_L_bent K n))) T.d_L_term sc_L_term (fun _ _ _ _ _ _ us hl => match us, hl with | [_, _, _, _], _ => rfl) (len_L_term)
    (fun f cdv A outer s H E hr => (pss_cons (ps_if (pt_cmpR op_lt (pv 3) pe_int (nomark _)) (pss_one (ps_ret (pe_c (ok_L_leaf T) hr (by omega) (by rfl) (pa_cons (pv 0) (pa_cons (pe_ix ix_tup (pv 1) pe_int (fun _ _ => rfl)) (pa_cons (pv 2) pa_nil))))))
    pss_nil)
    (pss_cons (ps_set (i := 4) sc_L_term.nd rfl (.inl rfl) (pe_c (ok_L_next T) hr (by omega) (by rfl) (pa_cons (pv 0) pa_nil)))
    (pss_cons (ps_par rfl sc_L_term.nd rfl rfl (by decide) rfl rfl (pa_cons (pe_op op_mod (pv 4) pe_int) (pa_cons (pe_op op_fdiv (pv 4) pe_int) pa_nil)) (by rfl))
    (pss_cons (ps_if (pt_cmpR op_lt (pv 5) pe_int (nomark _)) (pss_one (ps_ret (pe_c (ok_L_leaf T) hr (by omega) (by rfl) (pa_cons (pv 0) (pa_cons (pe_ix ix_tup (pv 1) pe_int (fun _ _ => rfl)) (pa_cons (pv 2) pa_nil))))))
    pss_nil)
    (pss_cons (ps_if (pt_cmpR op_eq (pv 5) pe_int (nomark _)) (pss_one (ps_ret (pe_tup (pa_cons pe_str (pa_cons (pe_c r_L_term hr (by omega) (by rfl) (pa_cons (pv 0) (pa_cons (pv 1) (pa_cons (pv 2) (pa_cons (pe_op op_sub (pv 3) pe_int) pa_nil))))) pa_nil)))))
    pss_nil)
    (pss_cons (ps_if (pt_cmpR op_lt (pv 5) pe_int (nomark _)) (pss_cons (ps_set (i := 7) sc_L_term.nd rfl (.inl rfl) (pe_c r_L_term hr (by omega) (by rfl) (pa_cons (pv 0) (pa_cons (pv 1) (pa_cons (pv 2) (pa_cons (pe_op op_sub (pv 3) pe_int) pa_nil))))))
    (pss_one (ps_ret (pe_tup (pa_cons pe_str (pa_cons (pe_ix ix_str pe_str (pe_op op_mod (pv 6) pe_int) (fun _ _ => rfl)) (pa_cons (pv 7) (pa_cons (pe_c r_L_term hr (by omega) (by rfl) (pa_cons (pv 0) (pa_cons (pv 1) (pa_cons (pv 2) (pa_cons (pe_op op_sub (pv 3) pe_int) pa_nil))))) pa_nil))))))))
    pss_nil)
    (pss_cons (ps_if (pt_cmpR op_eq (pv 5) pe_int (nomark _)) (pss_cons (ps_set (i := 8) sc_L_term.nd rfl (.inl rfl) (pe_c r_L_term hr (by omega) (by rfl) (pa_cons (pv 0) (pa_cons (pv 1) (pa_cons (pe_tup (pa_cons pe_str (pa_cons pe_int pa_nil))) (pa_cons (pe_op op_sub (pv 3) pe_int) pa_nil))))))
    (pss_cons (ps_set (i := 7) sc_L_term.nd rfl (.inl rfl) (pe_c r_L_term hr (by omega) (by rfl) (pa_cons (pv 0) (pa_cons (pv 1) (pa_cons (pv 2) (pa_cons (pe_op op_sub (pv 3) pe_int) pa_nil))))))
    (pss_one (ps_ret (pe_tup (pa_cons pe_str (pa_cons (pv 8) (pa_cons (pv 7) (pa_cons (pe_c r_L_term hr (by omega) (by rfl) (pa_cons (pv 0) (pa_cons (pv 1) (pa_cons (pv 2) (pa_cons (pe_op op_sub (pv 3) pe_int) pa_nil))))) pa_nil)))))))))
    pss_nil)
    (pss_cons (ps_setLc (i := 9) (own := [("_law_name", 11), ("_law_wide", 10)]) (g := (gTup K 2 (gCons (gName 11) (gCons (gName 10) gNil)))) (tt := (tTest (tOp (rEqD K) (tVar 10) (tVar 2)))) rfl sc_L_term.nd rfl rfl (sw_true rfl rfl rfl (by decide +kernel)) (pi_list (pe_ix ix_tup (pv 1) pe_int (fun _ _ => rfl))) (blkOk_by (N := ["_law_draw", "_law_has", "_law_width_here", "_law_deep", "_law_number", "_law_way", "_law_more", "_law_one", "_law_test", "_law_fits", "_law_wide", "_law_name"]) (sc := defScope s_L_term) (by decide +kernel)) (fun _ _ _ _ _ => (pg_tup rfl (pgs_cons (pg_name (i := 11) sc_L_term.nd rfl (.inl rfl)) (pgs_cons (pg_name (i := 10) sc_L_term.nd rfl (.inl rfl)) pgs_nil)))) (fun _ _ _ _ _ => (pts_one (pt_cmpR (op_eqD (hu64 hr)) (pv 10) (pv 2) (nomark _)))) (fun _ _ _ _ _ => (pv 11)))
    (pss_cons (ps_if (PW.pt (pw_and (pt_cmpR op_lt (pv 5) pe_int (nomark _)) (pw_and1 (pt_cmpR (op_neD (hu64 hr)) (pv 9) (pe_lst pa_nil) (nomark _))))) (pss_cons (ps_set (i := 10) sc_L_term.nd rfl (.inl rfl) (pe_tup (pa_cons pe_str (pa_cons (pe_op op_add pe_int (pe_op op_mod (pe_op op_fdiv (pv 6) pe_int) pe_int)) pa_nil))))
    (Evl.pss_cut (ps_if (PW.pt (pw_and (pt_cmpR op_lt (pe_op op_mod (pv 6) pe_int) pe_int (nomark _)) (pw_and1 (pt_cmpR (op_neD (hu64 hr)) (pe_ix ix_tup (pv 1) pe_int (fun _ _ => rfl)) (pe_lst pa_nil) (nomark _))))) (pss_one (ps_set (i := 10) sc_L_term.nd rfl (.inl rfl) (pe_ix ix_tup (pe_ix ix_list (pe_ix ix_tup (pv 1) pe_int (fun _ _ => rfl)) (pe_op op_mod (pe_op op_fdiv (pv 6) pe_int) (pe_callB call_len_seq (by rfl) T.n_len (by decide +kernel) (pa_cons (pe_ix ix_tup (pv 1) pe_int (fun _ _ => rfl)) pa_nil))) (fun _ _ => rfl)) pe_int (fun _ _ => rfl))))
    pss_nil)
    (pss_one (ps_ret (pe_tup (pa_cons pe_str (pa_cons (pe_ix ix_list (pv 9) (pe_op op_mod (pv 6) (pe_callB call_len_seq (by rfl) T.n_len (by decide +kernel) (pa_cons (pv 9) pa_nil))) (fun _ _ => rfl)) (pa_cons (pe_c r_L_term hr (by omega) (by rfl) (pa_cons (pv 0) (pa_cons (pv 1) (pa_cons (pv 10) (pa_cons (pe_op op_sub (pv 3) pe_int) pa_nil))))) pa_nil))))))))
    pss_nil)
    (pss_one (ps_ret (pe_c r_L_bent hr (by omega) (by rfl) (pa_cons (pv 0) (pa_cons (pv 1) (pa_cons (pv 2) (pa_cons (pe_op op_sub (pv 3) pe_int) (pa_cons (pv 6) pa_nil))))))))))))))))))
    (fun vs H Q E h => vr_L_term n vs H Q E h))
theorem ok_L_term (T : Tx K mg) : Cal P w K mg base 12 "_law_term" (sp_L_term K 4) := okr_L_term T 4
theorem ok_L_used (T : Tx K mg) : Cal P w K mg base 13 "_law_used" (sp_L_used K) :=
  cal_mk (t := (rd_L_used K)) T.d_L_used sc_L_used (fun _ _ _ _ _ _ us hl => match us, hl with | [_, _, _, _, _], _ => rfl) len_L_used
    (fun f cdv A outer s H E hr => (pss_cons (ps_set (i := 5) sc_L_used.nd rfl (.inl rfl) (pe_c (ok_L_next T) hr (by decide) (by rfl) (pa_cons (pv 0) pa_nil)))
    (pss_cons (ps_set (i := 6) sc_L_used.nd rfl (.inl rfl) (pe_ix ix_list (pv 1) (pe_op op_sub (pe_op op_sub (pe_callB call_len_seq (by rfl) T.n_len (by decide +kernel) (pa_cons (pv 1) pa_nil)) pe_int) (pe_op op_mod (pe_op op_mod (pv 5) pe_int) (pe_callB call_len_seq (by rfl) T.n_len (by decide +kernel) (pa_cons (pv 1) pa_nil)))) (fun _ _ => rfl)))
    (pss_cons (ps_set (i := 7) sc_L_used.nd rfl (.inl rfl) (pe_lst pa_nil))
    (pss_cons (ps_for PassesOwn.never rfl (pi_range1 (by rfl) T.n_range (pa_cons (pe_callB call_len_seq (by rfl) T.n_len (by decide +kernel) (pa_cons (pe_ix ix_tup (pv 6) pe_int (fun _ _ => rfl)) pa_nil)) pa_nil)) (pg_name (i := 8) sc_L_used.nd rfl (.inl rfl)) (pss_cons (ps_set (i := 9) sc_L_used.nd rfl (.inl rfl) (pe_c (ok_L_next T) hr (by decide) (by rfl) (pa_cons (pv 0) pa_nil)))
    (pss_one (ps_if (PW.pt (pw_and (pt_cmpR (op_neD (hu64 hr)) (pv 3) (pe_lst pa_nil) (nomark _)) (pw_and1 (pt_cmpR op_eq (pe_op op_mod (pv 9) pe_int) pe_int (nomark _))))) (pss_one (ps_expr (pe_bm PySem.F.plainAttrs_list PySem.F.slot_list_append PySem.F.type_list_append mt_append (pv 7) (pa_cons (pe_tup (pa_cons (pe_ix ix_list (pv 3) (pe_op op_mod (pe_op op_fdiv (pv 9) pe_int) (pe_callB call_len_seq (by rfl) T.n_len (by decide +kernel) (pa_cons (pv 3) pa_nil))) (fun _ _ => rfl)) (pa_cons pe_int pa_nil))) pa_nil))))
    (pss_one (ps_expr (pe_bm PySem.F.plainAttrs_list PySem.F.slot_list_append PySem.F.type_list_append mt_append (pv 7) (pa_cons (pe_tup (pa_cons pe_str (pa_cons (pe_op op_add pe_int (pe_op op_mod (pe_op op_fdiv (pv 9) pe_int) pe_int)) pa_nil))) pa_nil))))))))
    (pss_cons (ps_set (i := 10) sc_L_used.nd rfl (.inl rfl) (pe_lst pa_nil))
    (pss_cons (ps_for PassesOwn.never rfl (pi_tup (pe_ix ix_tup (pv 6) pe_int (fun _ _ => rfl))) (pg_name (i := 11) sc_L_used.nd rfl (.inl rfl)) (pss_one (ps_if (pt_cmpR op_in_seq (pe_ix ix_tup (pv 11) pe_int (fun _ _ => rfl)) (pe_tup (pa_cons pe_str (pa_cons pe_str pa_nil))) (by with_unfolding_all rfl)) (pss_cons (ps_set (i := 12) sc_L_used.nd rfl (.inl rfl) (pe_ix ix_tup (pv 11) pe_int (fun _ _ => rfl)))
    (Evl.pss_cut (ps_if (pt_cmpR op_ne (pe_ix ix_tup (pv 12) pe_int (fun _ _ => rfl)) pe_str (nomark _)) (pss_cons (ps_set (i := 13) sc_L_used.nd rfl (.inl rfl) (pe_ix ix_list (pv 7) (ZI.pe_tIdx (pe_ix ix_tup (pv 6) pe_int (fun _ _ => rfl)) (pa_cons (pe_ix ix_tup (pv 12) pe_int (fun _ _ => rfl)) pa_nil)) (fun _ _ => rfl)))
    (pss_one (ps_set (i := 12) sc_L_used.nd rfl (.inl rfl) (pe_tup (pa_cons (pe_ix ix_tup (pv 13) pe_int (fun _ _ => rfl)) (pa_cons (pe_op op_add (pe_ix ix_tup (pv 13) pe_int (fun _ _ => rfl)) (pe_ix ix_tup (pv 12) pe_int (fun _ _ => rfl))) pa_nil))))))
    pss_nil)
    (pss_one (ps_expr (pe_bm PySem.F.plainAttrs_list PySem.F.slot_list_append PySem.F.type_list_append mt_append (pv 10) (pa_cons (pe_tup (pa_cons (pe_ix ix_tup (pv 11) pe_int (fun _ _ => rfl)) (pa_cons (pe_ix ix_tup (pv 11) pe_int (fun _ _ => rfl)) (pa_cons (pv 12) pa_nil)))) pa_nil))))))
    pss_nil)))
    (pss_cons (ps_setLc (i := 14) (own := [("_law_kind", 15), ("_law_door", 16), ("_law_wide", 12)]) (g := (gTup K 3 (gCons (gName 15) (gCons (gName 16) (gCons (gName 12) gNil))))) (tt := (tTest (tOp rEq (tVar 15) (tC (.str "in"))))) rfl sc_L_used.nd rfl rfl (sw_true rfl rfl rfl (by decide +kernel)) (pi_list (pv 10)) (blkOk_by (N := ["_law_draw", "_law_parts", "_law_name", "_law_params", "_law_has", "_law_number", "_law_used_here", "_law_widths", "_law_k", "_law_more", "_law_doors", "_law_row", "_law_wide", "_law_first_here", "_law_terms_here", "_law_kind", "_law_door"]) (sc := defScope s_L_used) (by decide +kernel)) (fun _ _ _ _ _ => (pg_tup rfl (pgs_cons (pg_name (i := 15) sc_L_used.nd rfl (.inl rfl)) (pgs_cons (pg_name (i := 16) sc_L_used.nd rfl (.inl rfl)) (pgs_cons (pg_name (i := 12) sc_L_used.nd rfl (.inl rfl)) pgs_nil))))) (fun _ _ _ _ _ => (pts_one (pt_cmpR op_eq (pv 15) pe_str (nomark _)))) (fun _ _ _ _ _ => (pe_c (ok_L_term T) hr (by decide) (by rfl) (pa_cons (pv 0) (pa_cons (pv 4) (pa_cons (pv 12) (pa_cons pe_int pa_nil)))))))
    (pss_cons (ps_for PassesOwn.never rfl (pi_list (pv 10)) (pg_tup rfl (pgs_cons (pg_name (i := 15) sc_L_used.nd rfl (.inl rfl)) (pgs_cons (pg_name (i := 16) sc_L_used.nd rfl (.inl rfl)) (pgs_cons (pg_name (i := 12) sc_L_used.nd rfl (.inl rfl)) pgs_nil)))) (pss_one (ps_if (pt_cmpR op_eq (pv 15) pe_str (nomark _)) (pss_one (ps_expr (pe_bm PySem.F.plainAttrs_list PySem.F.slot_list_append PySem.F.type_list_append mt_append (pe_ix ix_tup (pv 4) pe_int (fun _ _ => rfl)) (pa_cons (pe_tup (pa_cons (pe_tup (pa_cons pe_str (pa_cons (pv 2) (pa_cons (pv 16) pa_nil)))) (pa_cons (pv 12) pa_nil))) pa_nil))))
    pss_nil)))
    (pss_one (ps_ret (pe_tup (pa_cons pe_str (pa_cons (pv 2) (pa_cons (pe_ix ix_tup (pv 6) pe_int (fun _ _ => rfl)) (pa_cons (pe_callTy call_tuple_of (by rfl) T.n_tuple (by decide +kernel) (pa_cons (pv 7) pa_nil)) (pa_cons (pe_callTy call_tuple_of (by rfl) T.n_tuple (by decide +kernel) (pa_cons (pv 14) pa_nil)) pa_nil)))))))))))))))))
    (fun vs H Q E h => vr_L_used vs H Q E h)
theorem ok_L_wired (T : Tx K mg) : Cal P w K mg base 13 "_law_wired" (sp_L_wired K) :=
  cal_mk (t := (rd_L_wired K)) T.d_L_wired sc_L_wired (fun _ _ _ _ _ _ us hl => match us, hl with | [_, _, _, _, _], _ => rfl) len_L_wired
    (fun f cdv A outer s H E hr => (pss_cons (ps_set (i := 5) sc_L_wired.nd rfl (.inl rfl) (pe_c (ok_L_next T) hr (by decide) (by rfl) (pa_cons (pv 0) pa_nil)))
    (pss_cons (ps_set (i := 6) sc_L_wired.nd rfl (.inl rfl) (pe_c (ok_L_width T) hr (by decide) (by rfl) (pa_cons (pv 0) (pa_cons (pv 3) pa_nil))))
    (Evl.pss_cut (ps_if (PW.pt (pw_and (pt_cmpR (op_neD (hu64 hr)) (pe_ix ix_tup (pv 4) pe_int (fun _ _ => rfl)) (pe_lst pa_nil) (nomark _)) (pw_and1 (pt_cmpR op_gt (pe_op op_mod (pv 5) pe_int) pe_int (nomark _))))) (pss_cons (ps_asg (pe_ix ix_list (pe_ix ix_tup (pv 4) pe_int (fun _ _ => rfl)) (pe_op op_mod (pe_op op_fdiv (pv 5) pe_int) (pe_callB call_len_seq (by rfl) T.n_len (by decide +kernel) (pa_cons (pe_ix ix_tup (pv 4) pe_int (fun _ _ => rfl)) pa_nil))) (fun _ _ => rfl)) (pg_tup rfl (pgs_cons (pg_name (i := 7) sc_L_wired.nd rfl (.inl rfl)) (pgs_cons (pg_name (i := 6) sc_L_wired.nd rfl (.inl rfl)) pgs_nil))))
    (pss_cons (ps_set (i := 8) sc_L_wired.nd rfl (.inl rfl) (pe_tup (pa_cons pe_str (pa_cons (pv 7) (pa_cons (pe_c (ok_L_term T) hr (by decide) (by rfl) (pa_cons (pv 0) (pa_cons (pv 4) (pa_cons (pe_tup (pa_cons pe_str (pa_cons (pe_op op_add pe_int (pe_op op_mod (pe_op op_fdiv (pv 5) pe_int) pe_int)) pa_nil))) (pa_cons pe_int pa_nil))))) pa_nil)))))
    (pss_one (ps_if (pt_cmpR op_eq (pe_op op_mod (pe_op op_fdiv (pv 5) pe_int) pe_int) pe_int (nomark _)) (pss_one (ps_set (i := 8) sc_L_wired.nd rfl (.inl rfl) (pe_tup (pa_cons pe_str (pa_cons (pe_ix ix_str pe_str (pe_op op_mod (pe_op op_fdiv (pv 5) pe_int) pe_int) (fun _ _ => rfl)) (pa_cons (pe_c (ok_L_term T) hr (by decide) (by rfl) (pa_cons (pv 0) (pa_cons (pv 4) (pa_cons (pv 6) (pa_cons pe_int pa_nil))))) (pa_cons (pv 8) pa_nil)))))))
    pss_nil))))
    (pss_one (ps_set (i := 8) sc_L_wired.nd rfl (.inl rfl) (pe_c (ok_L_term T) hr (by decide) (by rfl) (pa_cons (pv 0) (pa_cons (pv 4) (pa_cons (pv 6) (pa_cons pe_int pa_nil))))))))
    (pss_cons (ps_expr (pe_bm PySem.F.plainAttrs_list PySem.F.slot_list_append PySem.F.type_list_append mt_append (pe_ix ix_tup (pv 4) pe_int (fun _ _ => rfl)) (pa_cons (pe_tup (pa_cons (pe_tup (pa_cons pe_str (pa_cons (pv 2) pa_nil))) (pa_cons (pv 6) pa_nil))) pa_nil)))
    (pss_one (ps_ret (pe_lst (pa_cons (pe_tup (pa_cons (pv 1) (pa_cons (pv 2) (pa_cons (pv 6) pa_nil)))) (pa_cons (pe_tup (pa_cons pe_str (pa_cons (pv 2) (pa_cons (pv 8) pa_nil)))) pa_nil))))))))))
    (fun vs H Q E h => vr_L_wired vs H Q E h)
theorem ok_L_part (T : Tx K mg) : Cal P w K mg base 14 "_law_part" (sp_L_part K) :=
  cal_mk (t := (rd_L_part K)) T.d_L_part sc_L_part (fun _ _ _ _ _ _ us hl => match us, hl with | [_, _, _, _, _], _ => rfl) len_L_part
    (fun f cdv A outer s H E hr => (pss_cons (ps_set (i := 5) sc_L_part.nd rfl (.inl rfl) (pe_tup (pa_cons (pe_lst pa_nil) (pa_cons (pe_lst pa_nil) pa_nil))))
    (pss_cons (ps_set (i := 4) sc_L_part.nd rfl (.inl rfl) (pe_callTy call_list_of (by rfl) T.n_list (by decide +kernel) (pa_cons (pv 4) pa_nil)))
    (pss_cons (ps_set (i := 6) sc_L_part.nd rfl (.inl rfl) (pe_c (ok_L_heads T) hr (by decide) (by rfl) (pa_cons (pv 0) (pa_cons (pv 4) (pa_cons (pv 3) (pa_cons (pv 5) pa_nil))))))
    (pss_cons (ps_set (i := 7) sc_L_part.nd rfl (.inl rfl) (pe_lst pa_nil))
    (pss_cons (ps_set (i := 8) sc_L_part.nd rfl (.inl rfl) (pe_c (ok_L_next T) hr (by decide) (by rfl) (pa_cons (pv 0) pa_nil)))
    (pss_cons (ps_set (i := 9) sc_L_part.nd rfl (.inl rfl) (pe_op op_cat (pe_op op_rep (pe_lst (pa_cons pe_str pa_nil)) (pe_ix ix_list (pe_lst (pa_cons pe_int (pa_cons pe_int (pa_cons pe_int (pa_cons pe_int pa_nil))))) (pe_op op_mod (pv 8) pe_int) (fun _ _ => rfl))) (pe_op op_rep (pe_lst (pa_cons pe_str pa_nil)) (pe_op op_mul (pe_ix ix_list (pe_lst (pa_cons pe_int (pa_cons pe_int (pa_cons pe_int (pa_cons pe_int (pa_cons pe_int pa_nil)))))) (pe_op op_mod (pe_op op_fdiv (pv 8) pe_int) pe_int) (fun _ _ => rfl)) (pe_callTy call_int1 (by rfl) T.n_int (by decide +kernel) (pa_cons (pe_cmpR (op_neD (hu64 hr)) (pv 1) (pe_lst pa_nil) (nomark _)) pa_nil))))))
    (Evl.pss_cut (ps_if (pt_cmpR op_eq (pe_op op_mod (pe_op op_fdiv (pv 8) pe_int) pe_int) pe_int (nomark _)) (pss_one (ps_expr (pe_bm0 PySem.F.plainAttrs_list PySem.F.slot_list_reverse PySem.F.type_list_reverse mt_reverse (pv 9))))
    pss_nil)
    (pss_cons (ps_for PassesOwn.never rfl (pi_list (pe_op op_cat (pv 9) (pe_op op_rep (pe_lst (pa_cons pe_str pa_nil)) (pe_ix ix_list (pe_lst (pa_cons pe_int (pa_cons pe_int (pa_cons pe_int pa_nil)))) (pe_op op_mod (pe_op op_fdiv (pv 8) pe_int) pe_int) (fun _ _ => rfl))))) (pg_name (i := 10) sc_L_part.nd rfl (.inl rfl)) (pss_cons (ps_set (i := 11) sc_L_part.nd rfl (.inl rfl) (pe_bm PySem.F.plainAttrs_list PySem.F.slot_list_pop PySem.F.type_list_pop mt_popAt (pv 4) (pa_cons pe_int pa_nil)))
    (pss_one (ps_if (pt_cmpR op_eq (pv 10) pe_str (nomark _)) (pss_one (ps_expr (pe_bm PySem.F.plainAttrs_list PySem.F.slot_list_append PySem.F.type_list_append mt_append (pv 7) (pa_cons (pe_c (ok_L_used T) hr (by decide) (by rfl) (pa_cons (pv 0) (pa_cons (pv 1) (pa_cons (pv 11) (pa_cons (pv 3) (pa_cons (pv 5) pa_nil)))))) pa_nil))))
    (pss_one (ps_expr (pe_bm PySem.F.plainAttrs_list PySem.F.slot_list_extend PySem.F.type_list_extend mt_extend (pv 7) (pa_cons (pe_c (ok_L_wired T) hr (by decide) (by rfl) (pa_cons (pv 0) (pa_cons (pv 10) (pa_cons (pv 11) (pa_cons (pv 3) (pa_cons (pv 5) pa_nil)))))) pa_nil))))))))
    (pss_cons (ps_for PassesOwn.never rfl (pi_list (pv 6)) (pg_name (i := 12) sc_L_part.nd rfl (.inl rfl)) (Evl.pss_cut (ps_if (pt_cmpR op_eq (pe_ix ix_tup (pv 12) pe_int (fun _ _ => rfl)) pe_str (nomark _)) (pss_one (ps_set (i := 12) sc_L_part.nd rfl (.inl rfl) (pe_op op_catA (pv 12) (pe_tup (pa_cons (pe_c (ok_L_term T) hr (by decide) (by rfl) (pa_cons (pv 0) (pa_cons (pv 5) (pa_cons (pe_ix ix_tup (pv 12) pe_int (fun _ _ => rfl)) (pa_cons pe_int pa_nil))))) pa_nil)))))
    pss_nil)
    (Evl.pss_cut (ps_if (pt_cmpR op_eq (pe_ix ix_tup (pv 12) pe_int (fun _ _ => rfl)) pe_str (nomark _)) (pss_cons (ps_set (i := 13) sc_L_part.nd rfl (.inl rfl) (pe_c (ok_L_term T) hr (by decide) (by rfl) (pa_cons (pv 0) (pa_cons (pv 5) (pa_cons (pe_tup (pa_cons pe_str (pa_cons (pe_op op_add pe_int (pe_op op_mod (pe_c (ok_L_next T) hr (by decide) (by rfl) (pa_cons (pv 0) pa_nil)) pe_int)) pa_nil))) (pa_cons pe_int pa_nil))))))
    (pss_cons (ps_set (i := 14) sc_L_part.nd rfl (.inl rfl) (pe_c (ok_L_term T) hr (by decide) (by rfl) (pa_cons (pv 0) (pa_cons (pv 5) (pa_cons (pe_ix ix_tup (pv 12) pe_int (fun _ _ => rfl)) (pa_cons pe_int pa_nil))))))
    (pss_one (ps_set (i := 12) sc_L_part.nd rfl (.inl rfl) (pe_op op_catA (pv 12) (pe_tup (pa_cons (pv 13) (pa_cons (pv 14) (pa_cons (pe_c (ok_L_term T) hr (by decide) (by rfl) (pa_cons (pv 0) (pa_cons (pv 5) (pa_cons (pe_tup (pa_cons pe_str (pa_cons pe_int pa_nil))) (pa_cons pe_int pa_nil))))) pa_nil)))))))))
    pss_nil)
    (pss_one (ps_expr (pe_bm PySem.F.plainAttrs_list PySem.F.slot_list_append PySem.F.type_list_append mt_append (pv 7) (pa_cons (pv 12) pa_nil)))))))
    (pss_cons (ps_set (i := 15) sc_L_part.nd rfl (.inl rfl) (pe_op op_mod (pe_op op_fdiv (pv 8) pe_int) (pe_callB call_len_seq (by rfl) T.n_len (by decide +kernel) (pa_cons (pv 7) pa_nil))))
    (pss_cons (ps_set (i := 7) sc_L_part.nd rfl (.inl rfl) (pe_op op_cat (pe_slice sl_list (pv 7) (po_some (pv 15)) po_none) (pe_slice sl_list (pv 7) po_none (po_some (pv 15)))))
    (pss_cons (ps_if (pt_cmpR op_eq (pe_op op_mod (pe_op op_fdiv (pv 8) pe_int) pe_int) pe_int (nomark _)) (pss_one (ps_expr (pe_bm0 PySem.F.plainAttrs_list PySem.F.slot_list_reverse PySem.F.type_list_reverse mt_reverse (pv 7))))
    pss_nil)
    (pss_one (ps_ret (pe_tup (pa_cons (pv 2) (pa_cons (pe_callTy ZI.call_tuple_ofF (by rfl) T.n_tuple (by decide +kernel) (pa_cons (pv 3) pa_nil)) (pa_cons (pe_callTy call_tuple_of (by rfl) T.n_tuple (by decide +kernel) (pa_cons (pv 7) pa_nil)) pa_nil)))))))))))))))))))
    (fun vs H Q E h => vr_L_part vs H Q E h)
theorem ok_L_yard (T : Tx K mg) : Cal P w K mg base 15 "_law_yard" (sp_L_yard K) :=
  cal_mk (t := (rd_L_yard K)) T.d_L_yard sc_L_yard (fun _ _ _ _ _ _ us hl => match us, hl with | [_], _ => rfl) len_L_yard
    (fun f cdv A outer s H E hr => (pss_cons (ps_set (i := 1) sc_L_yard.nd rfl (.inl rfl) (pe_lst (pa_cons (pv 0) (pa_cons pe_int pa_nil))))
    (pss_cons (ps_set (i := 2) sc_L_yard.nd rfl (.inl rfl) (pe_c (ok_L_names T) hr (by decide) (by rfl) (pa_cons (pe_c (ok_L_cell T) hr (by decide) (by rfl) (pa_cons (pv 0) (pa_cons pe_int pa_nil))) pa_nil)))
    (pss_cons (ps_set (i := 3) sc_L_yard.nd rfl (.inl rfl) (pe_op op_add pe_int (pe_op op_mod (pe_c (ok_L_next T) hr (by decide) (by rfl) (pa_cons (pv 1) pa_nil)) pe_int)))
    (pss_cons (ps_set (i := 4) sc_L_yard.nd rfl (.inl rfl) (pe_lst pa_nil))
    (pss_cons (ps_for PassesOwn.never rfl (pi_range1 (by rfl) T.n_range (pa_cons (pv 3) pa_nil)) (pg_name (i := 5) sc_L_yard.nd rfl (.inl rfl)) (pss_cons (ps_set (i := 6) sc_L_yard.nd rfl (.inl rfl) (pe_ifExp (pt_cmpR op_lt (pv 5) (pe_op op_sub (pv 3) pe_int) (nomark _)) (pe_slice sl_list (pv 2) (po_some pe_int) (po_some (pe_op op_add pe_int (pe_op op_mod (pe_c (ok_L_next T) hr (by decide) (by rfl) (pa_cons (pv 1) pa_nil)) pe_int)))) (pe_lst pa_nil)))
    (pss_one (ps_expr (pe_bm PySem.F.plainAttrs_list PySem.F.slot_list_append PySem.F.type_list_append mt_append (pv 4) (pa_cons (pe_c (ok_L_part T) hr (by decide) (by rfl) (pa_cons (pv 1) (pa_cons (pv 4) (pa_cons (pe_ix ix_list (pv 2) (pv 5) (fun _ _ => rfl)) (pa_cons (pv 6) (pa_cons (pe_op op_cat (pe_slice sl_list (pv 2) (po_some (pe_op op_mul pe_int (pv 5))) po_none) (pe_slice sl_list (pv 2) po_none (po_some (pe_op op_mul pe_int (pv 5))))) pa_nil)))))) pa_nil))))))
    (pss_one (ps_ret (pe_callTy call_tuple_of (by rfl) T.n_tuple (by decide +kernel) (pa_cons (pv 4) pa_nil))))))))))
    (fun vs H Q E h => vr_L_yard vs H Q E h)
theorem okr_L_numbers (T : Tx K mg) : ∀ n : Nat, Cal P w K mg base (0 + 1 * n) "_law_numbers" (sp_L_numbers K n)
  | 0 => ZN.cal_no (ps := ["_law_yard_here", "_law_part_here", "_law_path", "_law_numbers_here", "_law_found"]) T.d_L_numbers (fun _ _ _ _ _ _ us hl => match us, hl with | [_, _, _, _, _], _ => rfl) no_L_numbers
  | n + 1 => by
    have r_L_numbers := okr_L_numbers T n
    exact (cal_mk (k := 0 + 1 * n + 0) (t := (rd_L_numbers K (sp_L_numbers K n))) T.d_L_numbers sc_L_numbers (fun _ _ _ _ _ _ us hl => match us, hl with | [_, _, _, _, _], _ => rfl) (len_L_numbers)
    (fun f cdv A outer s H E hr => (pss_cons (ps_set (i := 5) sc_L_numbers.nd rfl (.inr rfl) (ZW.pe_dictZip rfl (by rfl) T.n_dict (by rfl) T.n_zip (pa_cons (pe_ix ix_tup (pv 1) pe_int (fun _ _ => rfl)) (pa_cons (pv 3) pa_nil))))
    (pss_cons (ps_expr (pe_bm PySem.F.plainAttrs_list PySem.F.slot_list_append PySem.F.type_list_append mt_append (pv 4) (pa_cons (pe_tup (pa_cons (pv 2) (pa_cons (pe_ix ix_tup (pv 1) pe_int (fun _ _ => rfl)) (pa_cons (pv 3) pa_nil)))) pa_nil)))
    (pss_cons (ps_for PassesOwn.never rfl (pi_tup (pe_ix ix_tup (pv 1) pe_int (fun _ _ => rfl))) (pg_name (i := 6) sc_L_numbers.nd rfl (.inr rfl)) (pss_one (ps_if (pt_cmpR op_eq (pe_ix ix_tup (pv 6) pe_int (fun _ _ => rfl)) pe_str (nomark _)) (pss_cons (ps_set (i := 7) sc_L_numbers.nd rfl (.inl rfl) (pe_ix ix_list (pe_lc (own := [("_law_one", 9)]) (g := (gName 9)) (tt := (tTest (tOp rEq (tOp (rIxT K) (tVar 9) (tC (.int 0))) (tOp (rIxT K) (tVar 6) (tC (.int 2)))))) rfl sc_L_numbers.nd (pi_tup (pv 0)) (blkOk_by (N := ["_law_yard_here", "_law_part_here", "_law_path", "_law_numbers_here", "_law_found", "_law_known", "_law_row", "_law_used_here", "_law_told", "_law_one", "_law_width_here"]) (sc := defScope s_L_numbers) (by decide +kernel)) (fun _ _ _ _ _ => (pg_name (i := 9) sc_L_numbers.nd rfl (.inl rfl))) (fun _ _ _ _ _ => (pts_one (pt_cmpR op_eq (pe_ix ix_tup (pv 9) pe_int (fun _ _ => rfl)) (pe_ix ix_tup (pv 6) pe_int (fun _ _ => rfl)) (nomark _)))) (fun _ _ _ _ _ => (pv 9))) pe_int (fun _ _ => rfl)))
    (pss_cons (ps_setLc (i := 8) (own := [("_law_width_here", 10)]) (g := (gName 10)) (tt := tYes) rfl sc_L_numbers.nd rfl rfl (sw_true rfl rfl rfl (by decide +kernel)) (pi_tup (pe_ix ix_tup (pv 6) pe_int (fun _ _ => rfl))) (blkOk_by (N := ["_law_yard_here", "_law_part_here", "_law_path", "_law_numbers_here", "_law_found", "_law_known", "_law_row", "_law_used_here", "_law_told", "_law_one", "_law_width_here"]) (sc := defScope s_L_numbers) (by decide +kernel)) (fun _ _ _ _ _ => (pg_name (i := 10) sc_L_numbers.nd rfl (.inl rfl))) (fun _ _ _ _ _ => pts_nil) (fun _ _ _ _ _ => (pe_op op_add (pe_ix ix_tup (pv 10) pe_int (fun _ _ => rfl)) (pe_dget2 (hu_of hr) (pv 5) (pe_ix ix_tup (pv 10) pe_int (fun _ _ => rfl)) pe_int ⟨rfl, rfl, rfl, rfl⟩))))
    (pss_one (ps_expr (pe_c r_L_numbers hr (by omega) (by rfl) (pa_cons (pv 0) (pa_cons (pv 7) (pa_cons (pe_op op_add_str (pe_op op_add_str (pv 2) (pe_ix ix_tup (pv 6) pe_int (fun _ _ => rfl))) pe_str) (pa_cons (pe_callTy call_tuple_of (by rfl) T.n_tuple (by decide +kernel) (pa_cons (pv 8) pa_nil)) (pa_cons (pv 4) pa_nil))))))))))
    pss_nil)))
    (pss_one (ps_ret (pv 4)))))))
    (fun vs H Q E h => vr_L_numbers n vs H Q E h))
theorem ok_L_numbers (T : Tx K mg) : Cal P w K mg base 6 "_law_numbers" (sp_L_numbers K 6) := okr_L_numbers T 6
theorem okr_L_walked (T : Tx K mg) : ∀ n : Nat, Cal P w K mg base (0 + 1 * n) "_law_walked" (sp_L_walked K n)
  | 0 => ZN.cal_no (ps := ["_law_yard_here", "_law_part_here", "_law_path", "_law_found"]) T.d_L_walked (fun _ _ _ _ _ _ us hl => match us, hl with | [_, _, _, _], _ => rfl) no_L_walked
  | n + 1 => by
    have r_L_walked := okr_L_walked T n
    exact (cal_mk (k := 0 + 1 * n + 0) (t := (rd_L_walked K (sp_L_walked K n))) T.d_L_walked sc_L_walked (fun _ _ _ _ _ _ us hl => match us, hl with | [_, _, _, _], _ => rfl) (len_L_walked)
    (fun f cdv A outer s H E hr => (pss_cons (ps_expr (pe_bm PySem.F.plainAttrs_list PySem.F.slot_list_append PySem.F.type_list_append mt_append (pv 3) (pa_cons (pe_tup (pa_cons (pv 2) (pa_cons (pv 1) pa_nil))) pa_nil)))
    (pss_cons (ps_for PassesOwn.never rfl (pi_tup (pe_ix ix_tup (pv 1) pe_int (fun _ _ => rfl))) (pg_name (i := 4) sc_L_walked.nd rfl (.inr rfl)) (pss_one (ps_if (pt_cmpR op_eq (pe_ix ix_tup (pv 4) pe_int (fun _ _ => rfl)) pe_str (nomark _)) (pss_cons (ps_set (i := 5) sc_L_walked.nd rfl (.inl rfl) (pe_ix ix_list (pe_lc (own := [("_law_one", 6)]) (g := (gName 6)) (tt := (tTest (tOp rEq (tOp (rIxT K) (tVar 6) (tC (.int 0))) (tOp (rIxT K) (tVar 4) (tC (.int 2)))))) rfl sc_L_walked.nd (pi_tup (pv 0)) (blkOk_by (N := ["_law_yard_here", "_law_part_here", "_law_path", "_law_found", "_law_row", "_law_used_here", "_law_one"]) (sc := defScope s_L_walked) (by decide +kernel)) (fun _ _ _ _ _ => (pg_name (i := 6) sc_L_walked.nd rfl (.inl rfl))) (fun _ _ _ _ _ => (pts_one (pt_cmpR op_eq (pe_ix ix_tup (pv 6) pe_int (fun _ _ => rfl)) (pe_ix ix_tup (pv 4) pe_int (fun _ _ => rfl)) (nomark _)))) (fun _ _ _ _ _ => (pv 6))) pe_int (fun _ _ => rfl)))
    (pss_one (ps_expr (pe_c r_L_walked hr (by omega) (by rfl) (pa_cons (pv 0) (pa_cons (pv 5) (pa_cons (pe_op op_add_str (pe_op op_add_str (pv 2) (pe_ix ix_tup (pv 4) pe_int (fun _ _ => rfl))) pe_str) (pa_cons (pv 3) pa_nil))))))))
    pss_nil)))
    (pss_one (ps_ret (pv 3))))))
    (fun vs H Q E h => vr_L_walked n vs H Q E h))
theorem ok_L_walked (T : Tx K mg) : Cal P w K mg base 6 "_law_walked" (sp_L_walked K 6) := okr_L_walked T 6
theorem ok_L_kids (T : Tx K mg) : Cal P w K mg base 1 "_law_kids" (sp_L_kids K) :=
  cal_mk (t := (rd_L_kids K)) T.d_L_kids sc_L_kids (fun _ _ _ _ _ _ us hl => match us, hl with | [_], _ => rfl) len_L_kids
    (fun f cdv A outer s H E hr => (pss_cons (ps_set (i := 1) sc_L_kids.nd rfl (.inl rfl) (pe_disp (pps_cons pe_str (pe_lst (pa_cons pe_int pa_nil)) (pps_cons pe_str (pe_lst (pa_cons pe_int pa_nil)) (pps_cons pe_str (pe_lst (pa_cons pe_int (pa_cons pe_int pa_nil))) (pps_cons pe_str (pe_lst (pa_cons pe_int (pa_cons pe_int (pa_cons pe_int pa_nil)))) (pps_cons pe_str (pe_lst (pa_cons pe_int pa_nil)) (pps_cons pe_str (pe_lst (pa_cons pe_int (pa_cons pe_int pa_nil))) (pps_cons pe_str (pe_lst (pa_cons pe_int pa_nil)) pps_nil))))))) (by rfl) (by rfl) (fun z => by cases z) (by decide)))
    (pss_one (ps_ret (pe_lc (own := [("_law_at", 2)]) (g := (gName 2)) (tt := tYes) rfl sc_L_kids.nd (pi_list (pe_dget2 (hu_of hr) (pv 1) (pe_ix ix_tup (pv 0) pe_int (fun _ _ => rfl)) (pe_lst pa_nil) ⟨rfl, rfl, rfl, rfl⟩)) (blkOk_by (N := ["_law_term_here", "_law_places", "_law_at"]) (sc := defScope s_L_kids) (by decide +kernel)) (fun _ _ _ _ _ => (pg_name (i := 2) sc_L_kids.nd rfl (.inl rfl))) (fun _ _ _ _ _ => pts_nil) (fun _ _ _ _ _ => (pe_ix ix_tup (pv 0) (pv 2) (fun _ _ => rfl))))))))
    (fun vs H Q E h => vr_L_kids vs H Q E h)
theorem ok_L_asked (T : Tx K mg) : Cal P w K mg base 2 "_law_asked" (sp_L_asked K) :=
  cal_mk (t := (rd_L_asked K)) T.d_L_asked sc_L_asked (fun _ _ _ _ _ _ us hl => match us, hl with | [_, _], _ => rfl) len_L_asked
    (fun f cdv A outer s H E hr => (pss_cons (ps_par rfl sc_L_asked.nd rfl rfl (by decide) rfl rfl (pa_cons (pe_lst pa_nil) (pa_cons (pe_lst (pa_cons (pv 0) pa_nil)) pa_nil)) (by rfl))
    (pss_cons (ps_while PassesOwn.never (pt_cmpR (op_neD (hu64 hr)) (pv 3) (pe_lst pa_nil) (nomark _)) (pss_cons (ps_set (i := 4) sc_L_asked.nd rfl (.inl rfl) (pe_bm0 PySem.F.plainAttrs_list PySem.F.slot_list_pop PySem.F.type_list_pop mt_pop (pv 3)))
    (pss_cons (ps_set (i := 5) sc_L_asked.nd rfl (.inl rfl) (pe_ifExp (pt_cmpR op_in_seq (pe_ix ix_tup (pv 4) pe_int (fun _ _ => rfl)) (pe_tup (pa_cons pe_str (pa_cons pe_str pa_nil))) (by with_unfolding_all rfl)) (pe_op op_add_str (pv 1) (pe_bm PySem.F.plainAttrs_str PySem.F.slot_str_join PySem.F.type_str_join mt_join pe_str (pa_cons (pe_slice sl_tupA (pv 4) (po_some pe_int) po_none) pa_nil))) pe_str))
    (pss_cons (ps_if (PW.pt (pw_and (pt_cmpR op_ne (pv 5) pe_str (nomark _)) (pw_and1 (pt_cmpR op_notIn_seq (pv 5) (pv 2) (by with_unfolding_all rfl))))) (pss_one (ps_expr (pe_bm PySem.F.plainAttrs_list PySem.F.slot_list_append PySem.F.type_list_append mt_append (pv 2) (pa_cons (pv 5) pa_nil))))
    pss_nil)
    (pss_one (ps_expr (pe_bm PySem.F.plainAttrs_list PySem.F.slot_list_extend PySem.F.type_list_extend mt_extend (pv 3) (pa_cons (pe_revL (pe_c (ok_L_kids T) hr (by decide) (by rfl) (pa_cons (pv 4) pa_nil))) pa_nil))))))))
    (pss_one (ps_ret (pv 2))))))
    (fun vs H Q E h => vr_L_asked vs H Q E h)
theorem ok_L_asks (T : Tx K mg) : Cal P w K mg base 7 "_law_asks" (sp_L_asks K) :=
  cal_mk (t := (rd_L_asks K)) T.d_L_asks sc_L_asks (fun _ _ _ _ _ _ us hl => match us, hl with | [_], _ => rfl) len_L_asks
    (fun f cdv A outer s H E hr => (pss_cons (ps_set (i := 1) sc_L_asks.nd rfl (.inl rfl) pe_dnewK)
    (pss_cons (ps_for PassesOwn.never rfl (pi_list (pe_c (ok_L_walked T) hr (by decide) (by rfl) (pa_cons (pv 0) (pa_cons (pe_ix ix_tup (pv 0) (pe_op op_sub (pe_callB call_len_seq (by rfl) T.n_len (by decide +kernel) (pa_cons (pv 0) pa_nil)) pe_int) (fun _ _ => rfl)) (pa_cons pe_str (pa_cons (pe_lst pa_nil) pa_nil)))))) (pg_tup rfl (pgs_cons (pg_name (i := 2) sc_L_asks.nd rfl (.inl rfl)) (pgs_cons (pg_name (i := 3) sc_L_asks.nd rfl (.inl rfl)) pgs_nil))) (pss_one (ps_for PassesOwn.never rfl (pi_tup (pe_ix ix_tup (pv 3) pe_int (fun _ _ => rfl))) (pg_name (i := 4) sc_L_asks.nd rfl (.inr rfl)) (pss_cons (ps_if (pt_cmpR op_eq (pe_ix ix_tup (pv 4) pe_int (fun _ _ => rfl)) pe_str (nomark _)) (pss_one (ps_dput (hu_of hr) (pv 1) (pe_op op_add_str (pv 2) (pe_ix ix_tup (pv 4) pe_int (fun _ _ => rfl))) (pe_c (ok_L_asked T) hr (by decide) (by rfl) (pa_cons (pe_ix ix_tup (pv 4) pe_int (fun _ _ => rfl)) (pa_cons (pv 2) pa_nil))) rfl))
    pss_nil)
    (pss_one (ps_if (pt_cmpR op_eq (pe_ix ix_tup (pv 4) pe_int (fun _ _ => rfl)) pe_str (nomark _)) (pss_cons (ps_set (i := 5) sc_L_asks.nd rfl (.inl rfl) (pe_ix ix_list (pe_lc (own := [("_law_one", 9)]) (g := (gName 9)) (tt := (tTest (tOp rEq (tOp (rIxT K) (tVar 9) (tC (.int 0))) (tOp (rIxT K) (tVar 4) (tC (.int 2)))))) rfl sc_L_asks.nd (pi_tup (pv 0)) (blkOk_by (N := ["_law_yard_here", "_law_due", "_law_path", "_law_part_here", "_law_row", "_law_used_here", "_law_doors", "_law_door", "_law_term_here", "_law_one"]) (sc := defScope s_L_asks) (by decide +kernel)) (fun _ _ _ _ _ => (pg_name (i := 9) sc_L_asks.nd rfl (.inl rfl))) (fun _ _ _ _ _ => (pts_one (pt_cmpR op_eq (pe_ix ix_tup (pv 9) pe_int (fun _ _ => rfl)) (pe_ix ix_tup (pv 4) pe_int (fun _ _ => rfl)) (nomark _)))) (fun _ _ _ _ _ => (pv 9))) pe_int (fun _ _ => rfl)))
    (pss_cons (ps_setLc (i := 6) (own := [("_law_one", 9)]) (g := (gName 9)) (tt := (tTest (tOp rEq (tOp (rIxT K) (tVar 9) (tC (.int 0))) (tC (.str "in"))))) rfl sc_L_asks.nd rfl rfl (sw_true rfl rfl rfl (by decide +kernel)) (pi_tup (pe_ix ix_tup (pv 5) pe_int (fun _ _ => rfl))) (blkOk_by (N := ["_law_yard_here", "_law_due", "_law_path", "_law_part_here", "_law_row", "_law_used_here", "_law_doors", "_law_door", "_law_term_here", "_law_one"]) (sc := defScope s_L_asks) (by decide +kernel)) (fun _ _ _ _ _ => (pg_name (i := 9) sc_L_asks.nd rfl (.inl rfl))) (fun _ _ _ _ _ => (pts_one (pt_cmpR op_eq (pe_ix ix_tup (pv 9) pe_int (fun _ _ => rfl)) pe_str (nomark _)))) (fun _ _ _ _ _ => (pe_ix ix_tup (pv 9) pe_int (fun _ _ => rfl))))
    (pss_one (ps_for PassesOwn.never rfl (ZW.pi_zw (by rfl) T.n_zip (pa_cons (pv 6) (pa_cons (pe_ix ix_tup (pv 4) pe_int (fun _ _ => rfl)) pa_nil))) (pg_tup rfl (pgs_cons (pg_name (i := 7) sc_L_asks.nd rfl (.inl rfl)) (pgs_cons (pg_name (i := 8) sc_L_asks.nd rfl (.inl rfl)) pgs_nil))) (pss_one (ps_dput (hu_of hr) (pv 1) (pe_op op_add_str (pe_op op_add_str (pe_op op_add_str (pv 2) (pe_ix ix_tup (pv 4) pe_int (fun _ _ => rfl))) pe_str) (pv 7)) (pe_c (ok_L_asked T) hr (by decide) (by rfl) (pa_cons (pv 8) (pa_cons (pv 2) pa_nil))) rfl))))))
    pss_nil))))))
    (pss_one (ps_ret (pv 1))))))
    (fun vs H Q E h => vr_L_asks vs H Q E h)
theorem ok_width_number (T : Tx K mg) : Cal P w K mg base 1 "width_number" (sp_width_number K) :=
  cal_mk (t := (rd_width_number K)) T.d_width_number sc_width_number (fun _ _ _ _ _ _ us hl => match us, hl with | [_, _], _ => rfl) len_width_number
    (fun f cdv A outer s H E hr => (pss_cons (ps_asg (pv 0) (pg_tup rfl (pgs_cons (pg_name (i := 2) sc_width_number.nd rfl (.inl rfl)) (pgs_cons (pg_name (i := 3) sc_width_number.nd rfl (.inl rfl)) pgs_nil))))
    (pss_cons (ps_if (pt_cmpR op_eq (pv 2) pe_str (nomark _)) (pss_one (ps_ret (pv 3)))
    pss_nil)
    (pss_one (ps_ret (pe_op op_add (pe_dget (hu_of hr) (pv 1) (pv 2) (fun _ _ => rfl)) (pv 3)))))))
    (fun vs H Q E h => vr_width_number vs H Q E h)
theorem ok_width_numbers (T : Tx K mg) : Cal P w K mg base 2 "width_numbers" (sp_width_numbers K) :=
  cal_mk (t := (rd_width_numbers K)) T.d_width_numbers sc_width_numbers (fun _ _ _ _ _ _ us hl => match us, hl with | [_, _], _ => rfl) len_width_numbers
    (fun f cdv A outer s H E hr => (pss_one (ps_ret (pe_callTy call_tuple_of (by rfl) T.n_tuple (by decide +kernel) (pa_cons (pe_lc (own := [("width", 2)]) (g := (gName 2)) (tt := tYes) rfl sc_width_numbers.nd (pi_tup (pv 0)) (blkOk_by (N := ["widths", "numbers", "width"]) (sc := defScope s_width_numbers) (by decide +kernel)) (fun _ _ _ _ _ => (pg_name (i := 2) sc_width_numbers.nd rfl (.inl rfl))) (fun _ _ _ _ _ => pts_nil) (fun _ _ _ _ _ => (pe_c (ok_width_number T) hr (by decide) (by rfl) (pa_cons (pv 2) (pa_cons (pv 1) pa_nil))))) pa_nil)))))
    (fun vs H Q E h => vr_width_numbers vs H Q E h)
theorem okr_p_made_from (T : Tx K mg) : ∀ n : Nat, Cal P w K mg base (2 + 1 * n) "_made_from" (sp_p_made_from K n)
  | 0 => ZN.cal_no (ps := ["parts", "path", "name", "numbers"]) T.d_p_made_from (fun _ _ _ _ _ _ us hl => match us, hl with | [_, _, _, _], _ => rfl) no_p_made_from
  | n + 1 => by
    have r_p_made_from := okr_p_made_from T n
    exact (cal_mk (k := 2 + 1 * n + 0) (t := (rd_p_made_from K (sp_p_made_from K n))) T.d_p_made_from sc_p_made_from (fun _ _ _ _ _ _ us hl => match us, hl with | [_, _, _, _], _ => rfl) (len_p_made_from)
    (fun f cdv A outer s H E hr => (pss_cons (ps_asg (pe_dget (hu_of hr) (pv 0) (pv 2) (fun _ _ => rfl)) (pg_tup rfl (pgs_cons (pg_name (i := 4) sc_p_made_from.nd rfl (.inl rfl)) (pgs_cons (pg_name (i := 5) sc_p_made_from.nd rfl (.inl rfl)) (pgs_cons (pg_name (i := 6) sc_p_made_from.nd rfl (.inl rfl)) pgs_nil)))))
    (pss_cons (ps_set (i := 7) sc_p_made_from.nd rfl (.inl rfl) (ZW.pe_dictZip rfl (by rfl) T.n_dict (by rfl) T.n_zip (pa_cons (pv 5) (pa_cons (pv 3) pa_nil))))
    (pss_cons (ps_set (i := 8) sc_p_made_from.nd rfl (.inl rfl) (pe_lst (pa_cons (pe_tup (pa_cons (pv 1) (pa_cons (pv 2) (pa_cons (pv 3) pa_nil)))) pa_nil)))
    (pss_cons (ps_for PassesOwn.never rfl (pi_tup (pv 6)) (pg_name (i := 9) sc_p_made_from.nd rfl (.inl rfl)) (pss_one (ps_if (pt_cmpR op_eq (pe_ix ix_tup (pv 9) pe_int (fun _ _ => rfl)) pe_str (nomark _)) (pss_cons (ps_asg (pv 9) (pg_tup rfl (pgs_cons (pg_name (i := 4) sc_p_made_from.nd rfl (.inl rfl)) (pgs_cons (pg_name (i := 10) sc_p_made_from.nd rfl (.inl rfl)) (pgs_cons (pg_name (i := 11) sc_p_made_from.nd rfl (.inl rfl)) (pgs_cons (pg_name (i := 12) sc_p_made_from.nd rfl (.inl rfl)) (pgs_cons (pg_name (i := 4) sc_p_made_from.nd rfl (.inl rfl)) pgs_nil)))))))
    (pss_cons (ps_set (i := 13) sc_p_made_from.nd rfl (.inl rfl) (pe_c (ok_width_numbers T) hr (by omega) (by rfl) (pa_cons (pv 12) (pa_cons (pv 7) pa_nil))))
    (pss_one (ps_expr (pe_bm PySem.F.plainAttrs_list PySem.F.slot_list_extend PySem.F.type_list_extend mt_extend (pv 8) (pa_cons (pe_c r_p_made_from hr (by omega) (by rfl) (pa_cons (pv 0) (pa_cons (pe_op op_add_str (pe_op op_add_str (pv 1) (pv 10)) pe_str) (pa_cons (pv 11) (pa_cons (pv 13) pa_nil))))) pa_nil))))))
    pss_nil)))
    (pss_one (ps_ret (pv 8))))))))
    (fun vs H Q E h => vr_p_made_from n vs H Q E h))
theorem ok_p_made_from (T : Tx K mg) : Cal P w K mg base 8 "_made_from" (sp_p_made_from K 6) := okr_p_made_from T 6
theorem ok_parts_by_name (T : Tx K mg) : Cal P w K mg base 1 "parts_by_name" (sp_parts_by_name K) :=
  cal_mk (t := (rd_parts_by_name K)) T.d_parts_by_name sc_parts_by_name (fun _ _ _ _ _ _ us hl => match us, hl with | [_], _ => rfl) len_parts_by_name
    (fun f cdv A outer s H E hr => (pss_one (ps_ret (pe_dc (own := [("part", 1)]) (g := (gName 1)) (tt := tYes) rfl sc_parts_by_name.nd (pi_tup (pv 0)) (blkOk_by (N := ["yard", "part"]) (sc := defScope s_parts_by_name) (by decide +kernel)) (fun _ _ _ _ _ => (pg_name (i := 1) sc_parts_by_name.nd rfl (.inl rfl))) (fun _ _ _ _ _ => pts_nil) (fun _ _ _ _ _ => (pe_ix ix_tup (pv 1) pe_int (fun _ _ => rfl))) (fun _ _ _ _ _ => (pv 1))))))
    (fun vs H Q E h => vr_parts_by_name vs H Q E h)
theorem ok_made_parts (T : Tx K mg) : Cal P w K mg base 9 "made_parts" (sp_made_parts K) :=
  cal_mk (t := (rd_made_parts K)) T.d_made_parts sc_made_parts (fun _ _ _ _ _ _ us hl => match us, hl with | [_], _ => rfl) len_made_parts
    (fun f cdv A outer s H E hr => (pss_cons (ps_set (i := 1) sc_made_parts.nd rfl (.inl rfl) (pe_ix ix_tup (pv 0) (pe_un un_neg pe_int) (fun _ _ => rfl)))
    (pss_one (ps_ret (pe_callTy call_tuple_of (by rfl) T.n_tuple (by decide +kernel) (pa_cons (pe_c (ok_p_made_from T) hr (by decide) (by rfl) (pa_cons (pe_c (ok_parts_by_name T) hr (by decide) (by rfl) (pa_cons (pv 0) pa_nil)) (pa_cons pe_str (pa_cons (pe_ix ix_tup (pv 1) pe_int (fun _ _ => rfl)) (pa_cons (pe_tup pa_nil) pa_nil))))) pa_nil))))))
    (fun vs H Q E h => vr_made_parts vs H Q E h)
theorem ok_kids_of (T : Tx K mg) : Cal P w K mg base 1 "kids_of" (sp_kids_of K) :=
  cal_mk (t := (rd_kids_of K)) T.d_kids_of sc_kids_of (fun _ _ _ _ _ _ us hl => match us, hl with | [_], _ => rfl) len_kids_of
    (fun f cdv A outer s H E hr => (pss_cons (ps_set (i := 1) sc_kids_of.nd rfl (.inl rfl) (pe_ix ix_tup (pv 0) pe_int (fun _ _ => rfl)))
    (pss_cons (ps_if (pt_cmpR op_in_seq (pv 1) (pe_tup (pa_cons pe_str (pa_cons pe_str (pa_cons pe_str pa_nil)))) (by with_unfolding_all rfl)) (pss_one (ps_ret (pe_lst (pa_cons (pe_ix ix_tup (pv 0) pe_int (fun _ _ => rfl)) pa_nil))))
    pss_nil)
    (pss_cons (ps_if (pt_cmpR op_eq (pv 1) pe_str (nomark _)) (pss_one (ps_ret (pe_lst (pa_cons (pe_ix ix_tup (pv 0) pe_int (fun _ _ => rfl)) pa_nil))))
    pss_nil)
    (pss_cons (ps_if (pt_cmpR op_eq (pv 1) pe_str (nomark _)) (pss_one (ps_ret (pe_lst (pa_cons (pe_ix ix_tup (pv 0) pe_int (fun _ _ => rfl)) (pa_cons (pe_ix ix_tup (pv 0) pe_int (fun _ _ => rfl)) pa_nil)))))
    pss_nil)
    (pss_cons (ps_if (pt_cmpR op_eq (pv 1) pe_str (nomark _)) (pss_one (ps_ret (pe_lst (pa_cons (pe_ix ix_tup (pv 0) pe_int (fun _ _ => rfl)) (pa_cons (pe_ix ix_tup (pv 0) pe_int (fun _ _ => rfl)) pa_nil)))))
    pss_nil)
    (pss_cons (ps_if (pt_cmpR op_eq (pv 1) pe_str (nomark _)) (pss_one (ps_ret (pe_lst (pa_cons (pe_ix ix_tup (pv 0) pe_int (fun _ _ => rfl)) (pa_cons (pe_ix ix_tup (pv 0) pe_int (fun _ _ => rfl)) (pa_cons (pe_ix ix_tup (pv 0) pe_int (fun _ _ => rfl)) pa_nil))))))
    pss_nil)
    (pss_one (ps_ret (pe_lst pa_nil))))))))))
    (fun vs H Q E h => vr_kids_of vs H Q E h)
theorem okr_p_names_in (T : Tx K mg) : ∀ n : Nat, Cal P w K mg base (1 + 1 * n) "_names_in" (sp_p_names_in K n)
  | 0 => ZN.cal_no (ps := ["term"]) T.d_p_names_in (fun _ _ _ _ _ _ us hl => match us, hl with | [_], _ => rfl) no_p_names_in
  | n + 1 => by
    have r_p_names_in := okr_p_names_in T n
    exact (cal_mk (k := 1 + 1 * n + 0) (t := (rd_p_names_in K (sp_p_names_in K n))) T.d_p_names_in sc_p_names_in (fun _ _ _ _ _ _ us hl => match us, hl with | [_], _ => rfl) (len_p_names_in)
    (fun f cdv A outer s H E hr => (pss_cons (ps_if (pt_cmpR op_eq (pe_ix ix_tup (pv 0) pe_int (fun _ _ => rfl)) pe_str (nomark _)) (pss_one (ps_ret (pe_lst (pa_cons (pe_ix ix_tup (pv 0) pe_int (fun _ _ => rfl)) pa_nil))))
    pss_nil)
    (pss_cons (ps_if (pt_cmpR op_eq (pe_ix ix_tup (pv 0) pe_int (fun _ _ => rfl)) pe_str (nomark _)) (pss_one (ps_ret (pe_lst (pa_cons (pe_op op_add_str (pe_op op_add_str (pe_ix ix_tup (pv 0) pe_int (fun _ _ => rfl)) pe_str) (pe_ix ix_tup (pv 0) pe_int (fun _ _ => rfl))) pa_nil))))
    pss_nil)
    (pss_cons (ps_set (i := 1) sc_p_names_in.nd rfl (.inl rfl) (pe_lst pa_nil))
    (pss_cons (ps_for PassesOwn.never rfl (pi_list (pe_c (ok_kids_of T) hr (by omega) (by rfl) (pa_cons (pv 0) pa_nil))) (pg_name (i := 2) sc_p_names_in.nd rfl (.inl rfl)) (pss_one (ps_expr (pe_bm PySem.F.plainAttrs_list PySem.F.slot_list_extend PySem.F.type_list_extend mt_extend (pv 1) (pa_cons (pe_c r_p_names_in hr (by omega) (by rfl) (pa_cons (pv 2) pa_nil)) pa_nil)))))
    (pss_one (ps_ret (pv 1))))))))
    (fun vs H Q E h => vr_p_names_in n vs H Q E h))
theorem ok_p_names_in (T : Tx K mg) : Cal P w K mg base 9 "_names_in" (sp_p_names_in K 8) := okr_p_names_in T 8
theorem ok_p_asked_by (T : Tx K mg) : Cal P w K mg base 10 "_asked_by" (sp_p_asked_by K) :=
  cal_mk (t := (rd_p_asked_by K)) T.d_p_asked_by sc_p_asked_by (fun _ _ _ _ _ _ us hl => match us, hl with | [_, _], _ => rfl) len_p_asked_by
    (fun f cdv A outer s H E hr => (pss_cons (ps_set (i := 2) sc_p_asked_by.nd rfl (.inl rfl) (pe_lst pa_nil))
    (pss_cons (ps_for PassesOwn.never rfl (pi_list (pe_c (ok_p_names_in T) hr (by decide) (by rfl) (pa_cons (pv 0) pa_nil))) (pg_name (i := 3) sc_p_asked_by.nd rfl (.inl rfl)) (pss_one (ps_if (pt_cmpR op_notIn_seq (pe_op op_add_str (pv 1) (pv 3)) (pv 2) (by with_unfolding_all rfl)) (pss_one (ps_expr (pe_bm PySem.F.plainAttrs_list PySem.F.slot_list_append PySem.F.type_list_append mt_append (pv 2) (pa_cons (pe_op op_add_str (pv 1) (pv 3)) pa_nil))))
    pss_nil)))
    (pss_one (ps_ret (pv 2))))))
    (fun vs H Q E h => vr_p_asked_by vs H Q E h)
theorem ok_names_told (T : Tx K mg) : Cal P w K mg base 1 "names_told" (sp_names_told K) :=
  cal_mk (t := (rd_names_told K)) T.d_names_told sc_names_told (fun _ _ _ _ _ _ us hl => match us, hl with | [_, _], _ => rfl) len_names_told
    (fun f cdv A outer s H E hr => (pss_one (ps_ret (pe_lc (own := [("row", 2)]) (g := (gName 2)) (tt := (tTest (tOp rEq (tOp (rIxT K) (tVar 2) (tC (.int 0))) (tVar 1)))) rfl sc_names_told.nd (pi_tup (pe_ix ix_tup (pv 0) pe_int (fun _ _ => rfl))) (blkOk_by (N := ["part", "kind", "row"]) (sc := defScope s_names_told) (by decide +kernel)) (fun _ _ _ _ _ => (pg_name (i := 2) sc_names_told.nd rfl (.inl rfl))) (fun _ _ _ _ _ => (pts_one (pt_cmpR op_eq (pe_ix ix_tup (pv 2) pe_int (fun _ _ => rfl)) (pv 1) (nomark _)))) (fun _ _ _ _ _ => (pe_ix ix_tup (pv 2) pe_int (fun _ _ => rfl)))))))
    (fun vs H Q E h => vr_names_told vs H Q E h)
theorem ok_asks_of (T : Tx K mg) : Cal P w K mg base 11 "asks_of" (sp_asks_of K) :=
  cal_mk (t := (rd_asks_of K)) T.d_asks_of sc_asks_of (fun _ _ _ _ _ _ us hl => match us, hl with | [_], _ => rfl) len_asks_of
    (fun f cdv A outer s H E hr => (pss_cons (ps_set (i := 1) sc_asks_of.nd rfl (.inl rfl) (pe_c (ok_parts_by_name T) hr (by decide) (by rfl) (pa_cons (pv 0) pa_nil)))
    (pss_cons (ps_set (i := 2) sc_asks_of.nd rfl (.inl rfl) pe_dnewK)
    (pss_cons (ps_for PassesOwn.never rfl (pi_tup (pe_c (ok_made_parts T) hr (by decide) (by rfl) (pa_cons (pv 0) pa_nil))) (pg_tup rfl (pgs_cons (pg_name (i := 3) sc_asks_of.nd rfl (.inl rfl)) (pgs_cons (pg_name (i := 4) sc_asks_of.nd rfl (.inl rfl)) (pgs_cons (pg_name (i := 5) sc_asks_of.nd rfl (.inl rfl)) pgs_nil)))) (pss_one (ps_for PassesOwn.never rfl (pi_tup (pe_ix ix_tup (pe_dget (hu_of hr) (pv 1) (pv 4) (fun _ _ => rfl)) pe_int (fun _ _ => rfl))) (pg_name (i := 6) sc_asks_of.nd rfl (.inl rfl)) (pss_cons (ps_if (pt_cmpR op_eq (pe_ix ix_tup (pv 6) pe_int (fun _ _ => rfl)) pe_str (nomark _)) (pss_one (ps_dput (hu_of hr) (pv 2) (pe_op op_add_str (pv 3) (pe_ix ix_tup (pv 6) pe_int (fun _ _ => rfl))) (pe_c (ok_p_asked_by T) hr (by decide) (by rfl) (pa_cons (pe_ix ix_tup (pv 6) pe_int (fun _ _ => rfl)) (pa_cons (pv 3) pa_nil))) rfl))
    pss_nil)
    (pss_one (ps_if (pt_cmpR op_eq (pe_ix ix_tup (pv 6) pe_int (fun _ _ => rfl)) pe_str (nomark _)) (pss_cons (ps_asg (pv 6) (pg_tup rfl (pgs_cons (pg_name (i := 5) sc_asks_of.nd rfl (.inl rfl)) (pgs_cons (pg_name (i := 7) sc_asks_of.nd rfl (.inl rfl)) (pgs_cons (pg_name (i := 8) sc_asks_of.nd rfl (.inl rfl)) (pgs_cons (pg_name (i := 5) sc_asks_of.nd rfl (.inl rfl)) (pgs_cons (pg_name (i := 9) sc_asks_of.nd rfl (.inl rfl)) pgs_nil)))))))
    (pss_one (ps_for PassesOwn.never rfl (ZW.pi_zw (by rfl) T.n_zip (pa_cons (pe_c (ok_names_told T) hr (by decide) (by rfl) (pa_cons (pe_dget (hu_of hr) (pv 1) (pv 8) (fun _ _ => rfl)) (pa_cons pe_str pa_nil))) (pa_cons (pv 9) pa_nil))) (pg_tup rfl (pgs_cons (pg_name (i := 10) sc_asks_of.nd rfl (.inl rfl)) (pgs_cons (pg_name (i := 11) sc_asks_of.nd rfl (.inl rfl)) pgs_nil))) (pss_one (ps_dput (hu_of hr) (pv 2) (pe_op op_add_str (pe_op op_add_str (pe_op op_add_str (pv 3) (pv 7)) pe_str) (pv 10)) (pe_c (ok_p_asked_by T) hr (by decide) (by rfl) (pa_cons (pv 11) (pa_cons (pv 3) pa_nil))) rfl)))))
    pss_nil))))))
    (pss_one (ps_ret (pv 2)))))))
    (fun vs H Q E h => vr_asks_of vs H Q E h)
theorem ok_p_ring_from (T : Tx K mg) : Cal P w K mg base 1 "_ring_from" (sp_p_ring_from K) :=
  cal_mk (t := (rd_p_ring_from K)) T.d_p_ring_from sc_p_ring_from (fun _ _ _ _ _ _ us hl => match us, hl with | [_, _, _], _ => rfl) len_p_ring_from
    (fun f cdv A outer s H E hr => (pss_cons (ps_set (i := 3) sc_p_ring_from.nd rfl (.inl rfl) (pe_lst pa_nil))
    (pss_cons (ps_set (i := 4) sc_p_ring_from.nd rfl (.inl rfl) pe_dnewK)
    (pss_cons (ps_set (i := 5) sc_p_ring_from.nd rfl (.inl rfl) (pe_lst (pa_cons (pe_lst (pa_cons (pv 0) pa_nil)) pa_nil)))
    (pss_cons (ps_while PassesOwn.never (pt_truth (pv 5) (by intro _; rfl)) (pss_cons (ps_if (pt_not (pt_truth (pe_ix ix_list (pv 5) (pe_un un_neg pe_int) (fun _ _ => rfl)) (by intro _; rfl))) (pss_cons (ps_expr (pe_bm0 PySem.F.plainAttrs_list PySem.F.slot_list_pop PySem.F.type_list_pop mt_pop (pv 5)))
    (pss_cons (ps_if (pt_truth (pv 3) (by intro _; rfl)) (pss_one (ps_dput (hu_of hr) (pv 2) (pe_bm0 PySem.F.plainAttrs_list PySem.F.slot_list_pop PySem.F.type_list_pop mt_pop (pv 3)) pe_bl rfl))
    pss_nil)
    (pss_one ps_continue)))
    pss_nil)
    (pss_cons (ps_set (i := 6) sc_p_ring_from.nd rfl (.inl rfl) (pe_bm0 PySem.F.plainAttrs_list PySem.F.slot_list_pop PySem.F.type_list_pop mt_pop (pe_ix ix_list (pv 5) (pe_un un_neg pe_int) (fun _ _ => rfl))))
    (pss_cons (ps_if (pt_cmp (pc_din (hu_of hr) (pv 6) (pv 2))) (pss_one ps_continue)
    pss_nil)
    (pss_cons (ps_if (pt_cmp (pc_din (hu_of hr) (pv 6) (pv 4))) (pss_one (ps_ret (pe_slice sl_list (pv 3) (po_some (pe_dget (hu_of hr) (pv 4) (pv 6) (fun _ _ => rfl))) po_none)))
    pss_nil)
    (pss_cons (ps_dput (hu_of hr) (pv 4) (pv 6) (pe_callB call_len_seq (by rfl) T.n_len (by decide +kernel) (pa_cons (pv 3) pa_nil)) rfl)
    (pss_cons (ps_expr (pe_bm PySem.F.plainAttrs_list PySem.F.slot_list_append PySem.F.type_list_append mt_append (pv 3) (pa_cons (pv 6) pa_nil)))
    (pss_one (ps_expr (pe_bm PySem.F.plainAttrs_list PySem.F.slot_list_append PySem.F.type_list_append mt_append (pv 5) (pa_cons (pe_revOf rfl (by rfl) T.n_list (by rfl) T.n_reversed (pe_dget2 (hu_of hr) (pv 1) (pv 6) (pe_lst pa_nil) ⟨rfl, rfl, rfl, rfl⟩)) pa_nil)))))))))))
    (pss_one (ps_ret pe_non)))))))
    (fun vs H Q E h => vr_p_ring_from vs H Q E h)
theorem ok_ring_in (T : Tx K mg) : Cal P w K mg base 2 "ring_in" (sp_ring_in K) :=
  cal_mk (t := (rd_ring_in K)) T.d_ring_in sc_ring_in (fun _ _ _ _ _ _ us hl => match us, hl with | [_], _ => rfl) len_ring_in
    (fun f cdv A outer s H E hr => (pss_cons (ps_set (i := 1) sc_ring_in.nd rfl (.inl rfl) pe_dnewK)
    (pss_cons (ps_lock (ps_for PassesOwn.never rfl (pi_keys (pv 0)) (pg_name (i := 2) sc_ring_in.nd rfl (.inl rfl)) (pss_cons (ps_set (i := 3) sc_ring_in.nd rfl (.inl rfl) (pe_c (ok_p_ring_from T) hr (by decide) (by rfl) (pa_cons (pv 2) (pa_cons (pv 0) (pa_cons (pv 1) pa_nil)))))
    (pss_one (ps_if (pt_cmp (pc_notN (pv 3))) (pss_one (ps_ret (pv 3)))
    pss_nil)))))
    (pss_one (ps_ret pe_non)))))
    (fun vs H Q E h => vr_ring_in vs H Q E h)
theorem ok_widths_in (T : Tx K mg) : Cal P w K mg base 2 "widths_in" (sp_widths_in K) :=
  cal_mk (t := (rd_widths_in K)) T.d_widths_in sc_widths_in (fun _ _ _ _ _ _ us hl => match us, hl with | [_, _], _ => rfl) len_widths_in
    (fun f cdv A outer s H E hr => (pss_cons (ps_asg (pv 0) (pg_tup rfl (pgs_cons (pg_name (i := 2) sc_widths_in.nd rfl (.inl rfl)) (pgs_cons (pg_name (i := 3) sc_widths_in.nd rfl (.inl rfl)) (pgs_cons (pg_name (i := 4) sc_widths_in.nd rfl (.inl rfl)) pgs_nil)))))
    (pss_cons (ps_set (i := 5) sc_widths_in.nd rfl (.inr rfl) (ZW.pe_dictZip rfl (by rfl) T.n_dict (by rfl) T.n_zip (pa_cons (pv 3) (pa_cons (pv 1) pa_nil))))
    (pss_one (ps_ret (pe_dc (own := [("row", 6)]) (g := (gName 6)) (tt := (tTest (tOp (rIn K true) (tOp (rIxT K) (tVar 6) (tC (.int 0))) (tTup (tCons (tC (.str "let")) (tCons (tC (.str "use")) tNil)))))) rfl sc_widths_in.nd (pi_tup (pv 4)) (blkOk_by (N := ["part", "numbers", "_", "params", "rows", "by_param", "row"]) (sc := defScope s_widths_in) (by decide +kernel)) (fun _ _ _ _ _ => (pg_name (i := 6) sc_widths_in.nd rfl (.inl rfl))) (fun _ _ _ _ _ => (pts_one (pt_cmpR op_notIn_seq (pe_ix ix_tup (pv 6) pe_int (fun _ _ => rfl)) (pe_tup (pa_cons pe_str (pa_cons pe_str pa_nil))) (by with_unfolding_all rfl)))) (fun _ _ _ _ _ => (pe_ix ix_tup (pv 6) pe_int (fun _ _ => rfl))) (fun _ _ _ _ _ => (pe_c (ok_width_number T) hr (by decide) (by rfl) (pa_cons (pe_ix ix_tup (pv 6) pe_int (fun _ _ => rfl)) (pa_cons (pv 5) pa_nil))))))))))
    (fun vs H Q E h => vr_widths_in vs H Q E h)
theorem ok_L_widths_right (T : Tx K mg) : CalG P w K mg base 3 "_law_widths_right" (sp_L_widths_right K) :=
  calG_mk (t := (rd_L_widths_right K)) T.d_L_widths_right sc_L_widths_right (fun _ _ _ _ _ _ us hl => match us, hl with | [_, _], _ => rfl) len_L_widths_right
    (fun f cdv A outer s H E hq hr => (pss_cons (ps_set (i := 2) sc_L_widths_right.nd rfl (.inl rfl) (ZW.pe_dictZip rfl (by rfl) T.n_dict (by rfl) T.n_zip (pa_cons (pe_ix ix_tup (pv 0) pe_int (fun _ _ => rfl)) (pa_cons (pv 1) pa_nil))))
    (pss_cons (ps_set (i := 3) sc_L_widths_right.nd rfl (.inl rfl) pe_dnewK)
    (pss_cons (ps_for PassesOwn.never rfl (pi_tup (pe_ix ix_tup (pv 0) pe_int (fun _ _ => rfl))) (pg_name (i := 4) sc_L_widths_right.nd rfl (.inl rfl)) (pss_one (ps_if (pt_cmpR op_notIn_seq (pe_ix ix_tup (pv 4) pe_int (fun _ _ => rfl)) (pe_tup (pa_cons pe_str (pa_cons pe_str pa_nil))) (by with_unfolding_all rfl)) (pss_one (ps_dput (hu_of hr) (pv 3) (pe_ix ix_tup (pv 4) pe_int (fun _ _ => rfl)) (pe_op op_add (pe_ix ix_tup (pe_ix ix_tup (pv 4) pe_int (fun _ _ => rfl)) pe_int (fun _ _ => rfl)) (pe_dget2 (hu_of hr) (pv 2) (pe_ix ix_tup (pe_ix ix_tup (pv 4) pe_int (fun _ _ => rfl)) pe_int (fun _ _ => rfl)) pe_int ⟨rfl, rfl, rfl, rfl⟩)) rfl))
    pss_nil)))
    (pss_cons (ps_set (i := 5) sc_L_widths_right.nd rfl (.inl rfl) (pe_c (ok_widths_in T) hr (by decide) (by rfl) (pa_cons (pv 0) (pa_cons (pv 1) pa_nil))))
    (pss_cons (ps_if (PW.pt (pw_or (pt_not (pt_truth (pe_callB call_isi (by rfl) T.n_isinstance (by decide +kernel) (pa_cons (pv 5) (pa_cons (pe_bltn (by rfl) T.n_dict (by decide +kernel) rfl) pa_nil))) (by intro _; rfl))) (pw_or1 (pt_cmpR op_ne (pe_callB (call_reprK hq (hu64 hr)) (by rfl) T.n_repr (by decide +kernel) (pa_cons (pv 5) pa_nil)) (pe_callB (call_reprK hq (hu64 hr)) (by rfl) T.n_repr (by decide +kernel) (pa_cons (pv 3) pa_nil)) (nomark _))))) (pss_one (ps_ret pe_bl))
    pss_nil)
    (pss_cons (ps_expr (pe_dclear (pv 5)))
    (pss_one (ps_ret (pe_cmpR op_eq (pe_callB (call_reprK hq (hu64 hr)) (by rfl) T.n_repr (by decide +kernel) (pa_cons (pe_c (ok_widths_in T) hr (by decide) (by rfl) (pa_cons (pv 0) (pa_cons (pv 1) pa_nil))) pa_nil)) (pe_callB (call_reprK hq (hu64 hr)) (by rfl) T.n_repr (by decide +kernel) (pa_cons (pv 3) pa_nil)) (nomark _)))))))))))
    (fun vs H Q E h => vr_L_widths_right vs H Q E h)
theorem ok_L_terms (T : Tx K mg) : Cal P w K mg base 1 "_law_terms" (sp_L_terms K) :=
  cal_mk (t := (rd_L_terms K)) T.d_L_terms sc_L_terms (fun _ _ _ _ _ _ us hl => match us, hl with | [_], _ => rfl) len_L_terms
    (fun f cdv A outer s H E hr => (pss_cons (ps_set (i := 1) sc_L_terms.nd rfl (.inl rfl) (pe_disp (pps_cons pe_str (pe_lst (pa_cons pe_int pa_nil)) (pps_cons pe_str (pe_lst (pa_cons pe_int pa_nil)) (pps_cons pe_str (pe_lst (pa_cons pe_int (pa_cons pe_int (pa_cons pe_int pa_nil)))) pps_nil))) (by rfl) (by rfl) (fun z => by cases z) (by decide)))
    (pss_cons (ps_if (pt_cmpR op_eq (pe_ix ix_tup (pv 0) pe_int (fun _ _ => rfl)) pe_str (nomark _)) (pss_one (ps_ret (pe_callTy call_list_of (by rfl) T.n_list (by decide +kernel) (pa_cons (pe_ix ix_tup (pv 0) pe_int (fun _ _ => rfl)) pa_nil))))
    pss_nil)
    (pss_one (ps_ret (pe_lc (own := [("_law_at", 2)]) (g := (gName 2)) (tt := tYes) rfl sc_L_terms.nd (pi_list (pe_dget2 (hu_of hr) (pv 1) (pe_ix ix_tup (pv 0) pe_int (fun _ _ => rfl)) (pe_lst pa_nil) ⟨rfl, rfl, rfl, rfl⟩)) (blkOk_by (N := ["_law_row", "_law_places", "_law_at"]) (sc := defScope s_L_terms) (by decide +kernel)) (fun _ _ _ _ _ => (pg_name (i := 2) sc_L_terms.nd rfl (.inl rfl))) (fun _ _ _ _ _ => pts_nil) (fun _ _ _ _ _ => (pe_ix ix_tup (pv 0) (pv 2) (fun _ _ => rfl)))))))))
    (fun vs H Q E h => vr_L_terms vs H Q E h)
theorem okr_L_kids_right (T : Tx K mg) : ∀ n : Nat, CalG P w K mg base (1 + 1 * n) "_law_kids_right" (sp_L_kids_right K n)
  | 0 => ZN.calG_no (ps := ["_law_term_here"]) T.d_L_kids_right (fun _ _ _ _ _ _ us hl => match us, hl with | [_], _ => rfl) no_L_kids_right
  | n + 1 => by
    have r_L_kids_right := okr_L_kids_right T n
    exact (calG_mk (k := 1 + 1 * n + 0) (t := (rd_L_kids_right K (sp_L_kids_right K n))) T.d_L_kids_right sc_L_kids_right (fun _ _ _ _ _ _ us hl => match us, hl with | [_], _ => rfl) (len_L_kids_right)
    (fun f cdv A outer s H E hq hr => (pss_cons (ps_set (i := 1) sc_L_kids_right.nd rfl (.inl rfl) (pe_c (ok_L_kids T) hr (by omega) (by rfl) (pa_cons (pv 0) pa_nil)))
    (pss_cons (ps_set (i := 2) sc_L_kids_right.nd rfl (.inl rfl) (pe_c (ok_kids_of T) hr (by omega) (by rfl) (pa_cons (pv 0) pa_nil)))
    (pss_cons (ps_if (PW.pt (pw_or (pt_not (pt_truth (pe_callB call_isi (by rfl) T.n_isinstance (by decide +kernel) (pa_cons (pv 2) (pa_cons (pe_bltn (by rfl) T.n_list (by decide +kernel) rfl) pa_nil))) (by intro _; rfl))) (pw_or1 (pt_cmpR op_ne (pe_callB (call_reprD hq (hu64 hr)) (by rfl) T.n_repr (by decide +kernel) (pa_cons (pv 2) pa_nil)) (pe_callB (call_reprD hq (hu64 hr)) (by rfl) T.n_repr (by decide +kernel) (pa_cons (pv 1) pa_nil)) (nomark _))))) (pss_one (ps_ret pe_bl))
    pss_nil)
    (pss_cons (ps_expr (pe_bm PySem.F.plainAttrs_list PySem.F.slot_list_append PySem.F.type_list_append mt_append (pv 2) (pa_cons (pv 0) pa_nil)))
    (pss_one (ps_ret (pe_andT (pe_cmpR op_eq (pe_callB (call_reprD hq (hu64 hr)) (by rfl) T.n_repr (by decide +kernel) (pa_cons (pe_c (ok_kids_of T) hr (by omega) (by rfl) (pa_cons (pv 0) pa_nil)) pa_nil)) (pe_callB (call_reprD hq (hu64 hr)) (by rfl) T.n_repr (by decide +kernel) (pa_cons (pv 1) pa_nil)) (nomark _)) (pe_one (pe_callB (cr_all rfl) (by rfl) T.n_all (by decide +kernel) (pa_cons (pe_lc (own := [("_law_kid", 3)]) (g := (gName 3)) (tt := tYes) rfl sc_L_kids_right.nd (pi_list (pv 1)) (blkOk_by (N := ["_law_term_here", "_law_due", "_law_found", "_law_kid"]) (sc := defScope s_L_kids_right) (by decide +kernel)) (fun _ _ _ _ _ => (pg_name (i := 3) sc_L_kids_right.nd rfl (.inl rfl))) (fun _ _ _ _ _ => pts_nil) (fun _ _ _ _ _ => (pe_cG r_L_kids_right hq hr (by omega) (by rfl) (pa_cons (pv 3) pa_nil)))) pa_nil)))))))))))
    (fun vs H Q E h => vr_L_kids_right n vs H Q E h))
theorem ok_L_kids_right (T : Tx K mg) : CalG P w K mg base 9 "_law_kids_right" (sp_L_kids_right K 8) := okr_L_kids_right T 8
theorem ok_law (T : Tx K mg) : CalG P w K mg base 16 "law" (sp_law K) :=
  calG_mk (t := (rd_law K)) T.d_law sc_law (fun _ _ _ _ _ _ us hl => match us, hl with | [_], _ => rfl) len_law
    (fun f cdv A outer s H E hq hr => (pss_cons (ps_set (i := 1) sc_law.nd rfl (.inl rfl) (pe_c (ok_L_yard T) hr (by decide) (by rfl) (pa_cons (pv 0) pa_nil)))
    (pss_cons (ps_set (i := 2) sc_law.nd rfl (.inl rfl) (pe_callTy call_tuple_of (by rfl) T.n_tuple (by decide +kernel) (pa_cons (pe_c (ok_L_numbers T) hr (by decide) (by rfl) (pa_cons (pv 1) (pa_cons (pe_ix ix_tup (pv 1) (pe_op op_sub (pe_callB call_len_seq (by rfl) T.n_len (by decide +kernel) (pa_cons (pv 1) pa_nil)) pe_int) (fun _ _ => rfl)) (pa_cons pe_str (pa_cons (pe_tup pa_nil) (pa_cons (pe_lst pa_nil) pa_nil)))))) pa_nil)))
    (pss_cons (ps_set (i := 3) sc_law.nd rfl (.inl rfl) (pe_c (ok_L_asks T) hr (by decide) (by rfl) (pa_cons (pv 1) pa_nil)))
    (pss_cons (ps_set (i := 4) sc_law.nd rfl (.inl rfl) (pe_callTy (call_dictP rfl) (by rfl) T.n_dict (by decide +kernel) (pa_cons (pe_lc (own := [("_law_part_here", 11)]) (g := (gName 11)) (tt := tYes) rfl sc_law.nd (pi_tup (pv 1)) (blkOk_by (N := ["_law_script", "_law_yard_here", "_law_made", "_law_asks_here", "_law_parts", "_law_turn", "_law_told", "_law_found", "_law_name", "_law_path", "_law_numbers_here", "_law_part_here", "_law_row", "_law_term_here"]) (sc := defScope s_law) (by decide +kernel)) (fun _ _ _ _ _ => (pg_name (i := 11) sc_law.nd rfl (.inl rfl))) (fun _ _ _ _ _ => pts_nil) (fun _ _ _ _ _ => (pe_tup (pa_cons (pe_ix ix_tup (pv 11) pe_int (fun _ _ => rfl)) (pa_cons (pv 11) pa_nil))))) pa_nil)))
    (pss_cons (ps_for PassesOwn.never rfl (pi_range1 (by rfl) T.n_range (pa_cons pe_int pa_nil)) (pg_name (i := 5) sc_law.nd rfl (.inl rfl)) (pss_cons (ps_set (i := 6) sc_law.nd rfl (.inl rfl) (pe_c (ok_made_parts T) hr (by decide) (by rfl) (pa_cons (pv 1) pa_nil)))
    (pss_cons (ps_set (i := 7) sc_law.nd rfl (.inl rfl) (pe_c (ok_asks_of T) hr (by decide) (by rfl) (pa_cons (pv 1) pa_nil)))
    (pss_cons (ps_if (PW.pt (pw_or (pt_not (pt_truth (pe_callB call_isi (by rfl) T.n_isinstance (by decide +kernel) (pa_cons (pv 6) (pa_cons (pe_bltn (by rfl) T.n_tuple (by decide +kernel) rfl) pa_nil))) (by intro _; rfl))) (pw_or (pt_cmpR op_ne (pe_callB (call_reprD hq (hu64 hr)) (by rfl) T.n_repr (by decide +kernel) (pa_cons (pv 6) pa_nil)) (pe_callB (call_reprD hq (hu64 hr)) (by rfl) T.n_repr (by decide +kernel) (pa_cons (pv 2) pa_nil)) (nomark _)) (pw_or1 (pt_cmpR op_ne (pe_callB (call_reprK hq (hu64 hr)) (by rfl) T.n_repr (by decide +kernel) (pa_cons (pv 7) pa_nil)) (pe_callB (call_reprK hq (hu64 hr)) (by rfl) T.n_repr (by decide +kernel) (pa_cons (pv 3) pa_nil)) (nomark _)))))) (pss_one (ps_ret pe_bl))
    pss_nil)
    (pss_cons (ps_if (pt_cmp (pc_notN (pe_c (ok_ring_in T) hr (by decide) (by rfl) (pa_cons (pv 7) pa_nil)))) (pss_one (ps_ret pe_bl))
    pss_nil)
    (pss_cons (ps_for PassesOwn.never rfl (pi_list (pe_callTy (call_listD rfl) (by rfl) T.n_list (by decide +kernel) (pa_cons (pv 7) pa_nil))) (pg_name (i := 8) sc_law.nd rfl (.inl rfl)) (pss_one (ps_expr (pe_bm PySem.F.plainAttrs_list PySem.F.slot_list_append PySem.F.type_list_append mt_append (pe_dget (hu_of hr) (pv 7) (pv 8) (fun _ _ => rfl)) (pa_cons pe_str pa_nil)))))
    (pss_one (ps_expr (pe_dclear (pv 7))))))))))
    (pss_cons (ps_for PassesOwn.never rfl (pi_tup (pv 2)) (pg_tup rfl (pgs_cons (pg_name (i := 9) sc_law.nd rfl (.inl rfl)) (pgs_cons (pg_name (i := 8) sc_law.nd rfl (.inl rfl)) (pgs_cons (pg_name (i := 10) sc_law.nd rfl (.inl rfl)) pgs_nil)))) (pss_one (ps_if (pt_not (pt_truth (pe_cG (ok_L_widths_right T) hq hr (by decide) (by rfl) (pa_cons (pe_dget (hu_of hr) (pv 4) (pv 8) (fun _ _ => rfl)) (pa_cons (pv 10) pa_nil))) (by intro _; rfl))) (pss_one (ps_ret pe_bl))
    pss_nil)))
    (pss_cons (ps_for PassesOwn.never rfl (pi_tup (pv 1)) (pg_name (i := 11) sc_law.nd rfl (.inl rfl)) (pss_one (ps_for PassesOwn.never rfl (pi_tup (pe_ix ix_tup (pv 11) pe_int (fun _ _ => rfl))) (pg_name (i := 12) sc_law.nd rfl (.inl rfl)) (pss_one (ps_if (pt_not (pt_truth (pe_callB (cr_all rfl) (by rfl) T.n_all (by decide +kernel) (pa_cons (pe_lc (own := [("_law_term_here", 13)]) (g := (gName 13)) (tt := tYes) rfl sc_law.nd (pi_list (pe_c (ok_L_terms T) hr (by decide) (by rfl) (pa_cons (pv 12) pa_nil))) (blkOk_by (N := ["_law_script", "_law_yard_here", "_law_made", "_law_asks_here", "_law_parts", "_law_turn", "_law_told", "_law_found", "_law_name", "_law_path", "_law_numbers_here", "_law_part_here", "_law_row", "_law_term_here"]) (sc := defScope s_law) (by decide +kernel)) (fun _ _ _ _ _ => (pg_name (i := 13) sc_law.nd rfl (.inl rfl))) (fun _ _ _ _ _ => pts_nil) (fun _ _ _ _ _ => (pe_cG (ok_L_kids_right T) hq hr (by decide) (by rfl) (pa_cons (pv 13) pa_nil)))) pa_nil)) (by intro _; rfl))) (pss_one (ps_ret pe_bl))
    pss_nil)))))
    (pss_one (ps_ret pe_bl))))))))))
    (fun vs H Q E h => vr_law vs H Q E h)
end
def dd_L_mixed : He.DefD := ⟨("_law_mixed", none), "_law_mixed", "_law_mixed", defArgs s_L_mixed, defBody s_L_mixed, defScope s_L_mixed, [], []⟩
def dd_L_names : He.DefD := ⟨("_law_names", none), "_law_names", "_law_names", defArgs s_L_names, defBody s_L_names, defScope s_L_names, [], []⟩
def dd_L_cell : He.DefD := ⟨("_law_cell", none), "_law_cell", "_law_cell", defArgs s_L_cell, defBody s_L_cell, defScope s_L_cell, [], []⟩
def dd_L_next : He.DefD := ⟨("_law_next", none), "_law_next", "_law_next", defArgs s_L_next, defBody s_L_next, defScope s_L_next, [], []⟩
def dd_L_width : He.DefD := ⟨("_law_width", none), "_law_width", "_law_width", defArgs s_L_width, defBody s_L_width, defScope s_L_width, [], []⟩
def dd_L_word : He.DefD := ⟨("_law_word", none), "_law_word", "_law_word", defArgs s_L_word, defBody s_L_word, defScope s_L_word, [], []⟩
def dd_L_first : He.DefD := ⟨("_law_first", none), "_law_first", "_law_first", defArgs s_L_first, defBody s_L_first, defScope s_L_first, [], []⟩
def dd_L_heads : He.DefD := ⟨("_law_heads", none), "_law_heads", "_law_heads", defArgs s_L_heads, defBody s_L_heads, defScope s_L_heads, [], []⟩
def dd_L_leaf : He.DefD := ⟨("_law_leaf", none), "_law_leaf", "_law_leaf", defArgs s_L_leaf, defBody s_L_leaf, defScope s_L_leaf, [], []⟩
def dd_L_bent : He.DefD := ⟨("_law_bent", none), "_law_bent", "_law_bent", defArgs s_L_bent, defBody s_L_bent, defScope s_L_bent, [], []⟩
def dd_L_term : He.DefD := ⟨("_law_term", none), "_law_term", "_law_term", defArgs s_L_term, defBody s_L_term, defScope s_L_term, [], []⟩
def dd_L_used : He.DefD := ⟨("_law_used", none), "_law_used", "_law_used", defArgs s_L_used, defBody s_L_used, defScope s_L_used, [], []⟩
def dd_L_wired : He.DefD := ⟨("_law_wired", none), "_law_wired", "_law_wired", defArgs s_L_wired, defBody s_L_wired, defScope s_L_wired, [], []⟩
def dd_L_part : He.DefD := ⟨("_law_part", none), "_law_part", "_law_part", defArgs s_L_part, defBody s_L_part, defScope s_L_part, [], []⟩
def dd_L_yard : He.DefD := ⟨("_law_yard", none), "_law_yard", "_law_yard", defArgs s_L_yard, defBody s_L_yard, defScope s_L_yard, [], []⟩
def dd_L_numbers : He.DefD := ⟨("_law_numbers", none), "_law_numbers", "_law_numbers", defArgs s_L_numbers, defBody s_L_numbers, defScope s_L_numbers, [], []⟩
def dd_L_walked : He.DefD := ⟨("_law_walked", none), "_law_walked", "_law_walked", defArgs s_L_walked, defBody s_L_walked, defScope s_L_walked, [], []⟩
def dd_L_kids : He.DefD := ⟨("_law_kids", none), "_law_kids", "_law_kids", defArgs s_L_kids, defBody s_L_kids, defScope s_L_kids, [], []⟩
def dd_L_asked : He.DefD := ⟨("_law_asked", none), "_law_asked", "_law_asked", defArgs s_L_asked, defBody s_L_asked, defScope s_L_asked, [], []⟩
def dd_L_asks : He.DefD := ⟨("_law_asks", none), "_law_asks", "_law_asks", defArgs s_L_asks, defBody s_L_asks, defScope s_L_asks, [], []⟩
def dd_width_number : He.DefD := ⟨("width_number", none), "width_number", "width_number", defArgs s_width_number, defBody s_width_number, defScope s_width_number, [], []⟩
def dd_width_numbers : He.DefD := ⟨("width_numbers", none), "width_numbers", "width_numbers", defArgs s_width_numbers, defBody s_width_numbers, defScope s_width_numbers, [], []⟩
def dd_p_made_from : He.DefD := ⟨("_made_from", none), "_made_from", "_made_from", defArgs s_p_made_from, defBody s_p_made_from, defScope s_p_made_from, [], []⟩
def dd_parts_by_name : He.DefD := ⟨("parts_by_name", none), "parts_by_name", "parts_by_name", defArgs s_parts_by_name, defBody s_parts_by_name, defScope s_parts_by_name, [], []⟩
def dd_made_parts : He.DefD := ⟨("made_parts", none), "made_parts", "made_parts", defArgs s_made_parts, defBody s_made_parts, defScope s_made_parts, [], []⟩
def dd_kids_of : He.DefD := ⟨("kids_of", none), "kids_of", "kids_of", defArgs s_kids_of, defBody s_kids_of, defScope s_kids_of, [], []⟩
def dd_p_names_in : He.DefD := ⟨("_names_in", none), "_names_in", "_names_in", defArgs s_p_names_in, defBody s_p_names_in, defScope s_p_names_in, [], []⟩
def dd_p_asked_by : He.DefD := ⟨("_asked_by", none), "_asked_by", "_asked_by", defArgs s_p_asked_by, defBody s_p_asked_by, defScope s_p_asked_by, [], []⟩
def dd_names_told : He.DefD := ⟨("names_told", none), "names_told", "names_told", defArgs s_names_told, defBody s_names_told, defScope s_names_told, [], []⟩
def dd_asks_of : He.DefD := ⟨("asks_of", none), "asks_of", "asks_of", defArgs s_asks_of, defBody s_asks_of, defScope s_asks_of, [], []⟩
def dd_p_ring_from : He.DefD := ⟨("_ring_from", none), "_ring_from", "_ring_from", defArgs s_p_ring_from, defBody s_p_ring_from, defScope s_p_ring_from, [], []⟩
def dd_ring_in : He.DefD := ⟨("ring_in", none), "ring_in", "ring_in", defArgs s_ring_in, defBody s_ring_in, defScope s_ring_in, [], []⟩
def dd_widths_in : He.DefD := ⟨("widths_in", none), "widths_in", "widths_in", defArgs s_widths_in, defBody s_widths_in, defScope s_widths_in, [], []⟩
def dd_L_widths_right : He.DefD := ⟨("_law_widths_right", none), "_law_widths_right", "_law_widths_right", defArgs s_L_widths_right, defBody s_L_widths_right, defScope s_L_widths_right, [], []⟩
def dd_L_terms : He.DefD := ⟨("_law_terms", none), "_law_terms", "_law_terms", defArgs s_L_terms, defBody s_L_terms, defScope s_L_terms, [], []⟩
def dd_L_kids_right : He.DefD := ⟨("_law_kids_right", none), "_law_kids_right", "_law_kids_right", defArgs s_L_kids_right, defBody s_L_kids_right, defScope s_L_kids_right, [], []⟩
def dd_law : He.DefD := ⟨("law", none), "law", "law", defArgs s_law, defBody s_law, defScope s_law, [], []⟩
def fnD : List He.DefD := [dd_L_mixed, dd_L_names, dd_L_cell, dd_L_next, dd_L_width, dd_L_word, dd_L_first, dd_L_heads, dd_L_leaf, dd_L_bent, dd_L_term, dd_L_used, dd_L_wired, dd_L_part, dd_L_yard, dd_L_numbers, dd_L_walked, dd_L_kids, dd_L_asked, dd_L_asks, dd_width_number, dd_width_numbers, dd_p_made_from, dd_parts_by_name, dd_made_parts, dd_kids_of, dd_p_names_in, dd_p_asked_by, dd_names_told, dd_asks_of, dd_p_ring_from, dd_ring_in, dd_widths_in, dd_L_widths_right, dd_L_terms, dd_L_kids_right, dd_law]
def faD : List He.Fa := [.glo "_law_mixed", .glo "_law_names", .glo "_law_cell", .glo "_law_next", .glo "_law_width", .glo "_law_word", .glo "_law_first", .glo "_law_heads", .glo "_law_leaf", .glo "_law_bent", .glo "_law_term", .glo "_law_used", .glo "_law_wired", .glo "_law_part", .glo "_law_yard", .glo "_law_numbers", .glo "_law_walked", .glo "_law_kids", .glo "_law_asked", .glo "_law_asks", .glo "width_number", .glo "width_numbers", .glo "_made_from", .glo "parts_by_name", .glo "made_parts", .glo "kids_of", .glo "_names_in", .glo "_asked_by", .glo "names_told", .glo "asks_of", .glo "_ring_from", .glo "ring_in", .glo "widths_in", .glo "_law_widths_right", .glo "_law_terms", .glo "_law_kids_right", .glo "law", .free "all", .free "dict", .free "int", .free "isinstance", .free "len", .free "list", .free "range", .free "repr", .free "reversed", .free "tuple", .free "zip"]
def exD : PySem.W.Frag → Bool := fun K => true
theorem tx_of {K : PySem.W.Frag} {h : Heap} {mg : Str → Option Value} (X : K.In h) (G : h.Ns mainGlobals mg) (c : He.SaysD faD fnD K) (ex : exD K = true) : Tx K mg where
  d_L_mixed := by
    obtain ⟨fd, F⟩ := c.def_ 0 (d := dd_L_mixed) rfl
    exact ⟨_, fd, F, He.glo_ok X G (c.fact 0 (f := .glo "_law_mixed") rfl)⟩
  d_L_names := by
    obtain ⟨fd, F⟩ := c.def_ 1 (d := dd_L_names) rfl
    exact ⟨_, fd, F, He.glo_ok X G (c.fact 1 (f := .glo "_law_names") rfl)⟩
  d_L_cell := by
    obtain ⟨fd, F⟩ := c.def_ 2 (d := dd_L_cell) rfl
    exact ⟨_, fd, F, He.glo_ok X G (c.fact 2 (f := .glo "_law_cell") rfl)⟩
  d_L_next := by
    obtain ⟨fd, F⟩ := c.def_ 3 (d := dd_L_next) rfl
    exact ⟨_, fd, F, He.glo_ok X G (c.fact 3 (f := .glo "_law_next") rfl)⟩
  d_L_width := by
    obtain ⟨fd, F⟩ := c.def_ 4 (d := dd_L_width) rfl
    exact ⟨_, fd, F, He.glo_ok X G (c.fact 4 (f := .glo "_law_width") rfl)⟩
  d_L_word := by
    obtain ⟨fd, F⟩ := c.def_ 5 (d := dd_L_word) rfl
    exact ⟨_, fd, F, He.glo_ok X G (c.fact 5 (f := .glo "_law_word") rfl)⟩
  d_L_first := by
    obtain ⟨fd, F⟩ := c.def_ 6 (d := dd_L_first) rfl
    exact ⟨_, fd, F, He.glo_ok X G (c.fact 6 (f := .glo "_law_first") rfl)⟩
  d_L_heads := by
    obtain ⟨fd, F⟩ := c.def_ 7 (d := dd_L_heads) rfl
    exact ⟨_, fd, F, He.glo_ok X G (c.fact 7 (f := .glo "_law_heads") rfl)⟩
  d_L_leaf := by
    obtain ⟨fd, F⟩ := c.def_ 8 (d := dd_L_leaf) rfl
    exact ⟨_, fd, F, He.glo_ok X G (c.fact 8 (f := .glo "_law_leaf") rfl)⟩
  d_L_bent := by
    obtain ⟨fd, F⟩ := c.def_ 9 (d := dd_L_bent) rfl
    exact ⟨_, fd, F, He.glo_ok X G (c.fact 9 (f := .glo "_law_bent") rfl)⟩
  d_L_term := by
    obtain ⟨fd, F⟩ := c.def_ 10 (d := dd_L_term) rfl
    exact ⟨_, fd, F, He.glo_ok X G (c.fact 10 (f := .glo "_law_term") rfl)⟩
  d_L_used := by
    obtain ⟨fd, F⟩ := c.def_ 11 (d := dd_L_used) rfl
    exact ⟨_, fd, F, He.glo_ok X G (c.fact 11 (f := .glo "_law_used") rfl)⟩
  d_L_wired := by
    obtain ⟨fd, F⟩ := c.def_ 12 (d := dd_L_wired) rfl
    exact ⟨_, fd, F, He.glo_ok X G (c.fact 12 (f := .glo "_law_wired") rfl)⟩
  d_L_part := by
    obtain ⟨fd, F⟩ := c.def_ 13 (d := dd_L_part) rfl
    exact ⟨_, fd, F, He.glo_ok X G (c.fact 13 (f := .glo "_law_part") rfl)⟩
  d_L_yard := by
    obtain ⟨fd, F⟩ := c.def_ 14 (d := dd_L_yard) rfl
    exact ⟨_, fd, F, He.glo_ok X G (c.fact 14 (f := .glo "_law_yard") rfl)⟩
  d_L_numbers := by
    obtain ⟨fd, F⟩ := c.def_ 15 (d := dd_L_numbers) rfl
    exact ⟨_, fd, F, He.glo_ok X G (c.fact 15 (f := .glo "_law_numbers") rfl)⟩
  d_L_walked := by
    obtain ⟨fd, F⟩ := c.def_ 16 (d := dd_L_walked) rfl
    exact ⟨_, fd, F, He.glo_ok X G (c.fact 16 (f := .glo "_law_walked") rfl)⟩
  d_L_kids := by
    obtain ⟨fd, F⟩ := c.def_ 17 (d := dd_L_kids) rfl
    exact ⟨_, fd, F, He.glo_ok X G (c.fact 17 (f := .glo "_law_kids") rfl)⟩
  d_L_asked := by
    obtain ⟨fd, F⟩ := c.def_ 18 (d := dd_L_asked) rfl
    exact ⟨_, fd, F, He.glo_ok X G (c.fact 18 (f := .glo "_law_asked") rfl)⟩
  d_L_asks := by
    obtain ⟨fd, F⟩ := c.def_ 19 (d := dd_L_asks) rfl
    exact ⟨_, fd, F, He.glo_ok X G (c.fact 19 (f := .glo "_law_asks") rfl)⟩
  d_width_number := by
    obtain ⟨fd, F⟩ := c.def_ 20 (d := dd_width_number) rfl
    exact ⟨_, fd, F, He.glo_ok X G (c.fact 20 (f := .glo "width_number") rfl)⟩
  d_width_numbers := by
    obtain ⟨fd, F⟩ := c.def_ 21 (d := dd_width_numbers) rfl
    exact ⟨_, fd, F, He.glo_ok X G (c.fact 21 (f := .glo "width_numbers") rfl)⟩
  d_p_made_from := by
    obtain ⟨fd, F⟩ := c.def_ 22 (d := dd_p_made_from) rfl
    exact ⟨_, fd, F, He.glo_ok X G (c.fact 22 (f := .glo "_made_from") rfl)⟩
  d_parts_by_name := by
    obtain ⟨fd, F⟩ := c.def_ 23 (d := dd_parts_by_name) rfl
    exact ⟨_, fd, F, He.glo_ok X G (c.fact 23 (f := .glo "parts_by_name") rfl)⟩
  d_made_parts := by
    obtain ⟨fd, F⟩ := c.def_ 24 (d := dd_made_parts) rfl
    exact ⟨_, fd, F, He.glo_ok X G (c.fact 24 (f := .glo "made_parts") rfl)⟩
  d_kids_of := by
    obtain ⟨fd, F⟩ := c.def_ 25 (d := dd_kids_of) rfl
    exact ⟨_, fd, F, He.glo_ok X G (c.fact 25 (f := .glo "kids_of") rfl)⟩
  d_p_names_in := by
    obtain ⟨fd, F⟩ := c.def_ 26 (d := dd_p_names_in) rfl
    exact ⟨_, fd, F, He.glo_ok X G (c.fact 26 (f := .glo "_names_in") rfl)⟩
  d_p_asked_by := by
    obtain ⟨fd, F⟩ := c.def_ 27 (d := dd_p_asked_by) rfl
    exact ⟨_, fd, F, He.glo_ok X G (c.fact 27 (f := .glo "_asked_by") rfl)⟩
  d_names_told := by
    obtain ⟨fd, F⟩ := c.def_ 28 (d := dd_names_told) rfl
    exact ⟨_, fd, F, He.glo_ok X G (c.fact 28 (f := .glo "names_told") rfl)⟩
  d_asks_of := by
    obtain ⟨fd, F⟩ := c.def_ 29 (d := dd_asks_of) rfl
    exact ⟨_, fd, F, He.glo_ok X G (c.fact 29 (f := .glo "asks_of") rfl)⟩
  d_p_ring_from := by
    obtain ⟨fd, F⟩ := c.def_ 30 (d := dd_p_ring_from) rfl
    exact ⟨_, fd, F, He.glo_ok X G (c.fact 30 (f := .glo "_ring_from") rfl)⟩
  d_ring_in := by
    obtain ⟨fd, F⟩ := c.def_ 31 (d := dd_ring_in) rfl
    exact ⟨_, fd, F, He.glo_ok X G (c.fact 31 (f := .glo "ring_in") rfl)⟩
  d_widths_in := by
    obtain ⟨fd, F⟩ := c.def_ 32 (d := dd_widths_in) rfl
    exact ⟨_, fd, F, He.glo_ok X G (c.fact 32 (f := .glo "widths_in") rfl)⟩
  d_L_widths_right := by
    obtain ⟨fd, F⟩ := c.def_ 33 (d := dd_L_widths_right) rfl
    exact ⟨_, fd, F, He.glo_ok X G (c.fact 33 (f := .glo "_law_widths_right") rfl)⟩
  d_L_terms := by
    obtain ⟨fd, F⟩ := c.def_ 34 (d := dd_L_terms) rfl
    exact ⟨_, fd, F, He.glo_ok X G (c.fact 34 (f := .glo "_law_terms") rfl)⟩
  d_L_kids_right := by
    obtain ⟨fd, F⟩ := c.def_ 35 (d := dd_L_kids_right) rfl
    exact ⟨_, fd, F, He.glo_ok X G (c.fact 35 (f := .glo "_law_kids_right") rfl)⟩
  d_law := by
    obtain ⟨fd, F⟩ := c.def_ 36 (d := dd_law) rfl
    exact ⟨_, fd, F, He.glo_ok X G (c.fact 36 (f := .glo "law") rfl)⟩
  n_all := He.free_ok X G (c.fact 37 (f := .free "all") rfl)
  n_dict := He.free_ok X G (c.fact 38 (f := .free "dict") rfl)
  n_int := He.free_ok X G (c.fact 39 (f := .free "int") rfl)
  n_isinstance := He.free_ok X G (c.fact 40 (f := .free "isinstance") rfl)
  n_len := He.free_ok X G (c.fact 41 (f := .free "len") rfl)
  n_list := He.free_ok X G (c.fact 42 (f := .free "list") rfl)
  n_range := He.free_ok X G (c.fact 43 (f := .free "range") rfl)
  n_repr := He.free_ok X G (c.fact 44 (f := .free "repr") rfl)
  n_reversed := He.free_ok X G (c.fact 45 (f := .free "reversed") rfl)
  n_tuple := He.free_ok X G (c.fact 46 (f := .free "tuple") rfl)
  n_zip := He.free_ok X G (c.fact 47 (f := .free "zip") rfl)
abbrev R : PySem.W.OpenRow := PySem.W.OpenLaw.row PySem.Challenge.rw_wireyard_k17_what_is_made_and_asked
def loose0 : List PySem.Str := ["kids_of", "width_number", "width_numbers", "names_told", "widths_in", "parts_by_name", "made_parts", "_made_from", "asks_of", "ring_in", "_ring_from", "_asked_by", "_names_in", "_law_cell", "_law_mixed", "_law_next"]
def loose1 : List PySem.Str := ["_law_word", "_law_names", "_law_width", "_law_first", "_law_leaf", "_law_bent", "_law_term", "_law_heads", "_law_used", "_law_wired", "_law_part", "_law_yard", "_law_kids", "_law_terms", "_law_walked", "_law_asked"]
def loose2 : List PySem.Str := ["_law_asks", "_law_numbers", "_law_kids_right", "_law_widths_right"]
def loose : List PySem.Str := loose0 ++ loose1 ++ loose2
abbrev hk : PySem.W.Hook := Z.hookZ faD fnD exD 4
def ob (s : PySem.W.SharedT) : He.AlD × Bool := Z.lookZ faD fnD exD 4 (HandSHeadRun.getT s)
theorem ob_eq (s : PySem.W.SharedT) : ob s = hk.obs s.abs := Z.lookZ_eq (HandSHeadRun.getT_eq s)
theorem run (w : World) : HandSHeadRun.RunEq R (PySem.W.view R.prog [39]) hk ob 4000 loose w := by
  intro os
  kernel_rfl
theorem fn_law {P : Program} {w : World} {K : PySem.W.Frag} {mg : Str → Option Value} {base : Heap} {f : Addr} {fd : FuncData} (F : FunD K "law" "law" (defArgs s_law) (defBody s_law) (defScope s_law) [] [] f fd) (T : Tx K mg) : FnG P w K mg base 16 f fd ["_law_script"] (sp_law K) :=
  FnG.of F sc_law len_law fun cdv A outer s H vs Q E hq hr h => ⟨(rd_law K), PSs.nox ((pss_cons (ps_set (i := 1) sc_law.nd rfl (.inl rfl) (pe_c (ok_L_yard T) hr (by decide) (by rfl) (pa_cons (pv 0) pa_nil)))
    (pss_cons (ps_set (i := 2) sc_law.nd rfl (.inl rfl) (pe_callTy call_tuple_of (by rfl) T.n_tuple (by decide +kernel) (pa_cons (pe_c (ok_L_numbers T) hr (by decide) (by rfl) (pa_cons (pv 1) (pa_cons (pe_ix ix_tup (pv 1) (pe_op op_sub (pe_callB call_len_seq (by rfl) T.n_len (by decide +kernel) (pa_cons (pv 1) pa_nil)) pe_int) (fun _ _ => rfl)) (pa_cons pe_str (pa_cons (pe_tup pa_nil) (pa_cons (pe_lst pa_nil) pa_nil)))))) pa_nil)))
    (pss_cons (ps_set (i := 3) sc_law.nd rfl (.inl rfl) (pe_c (ok_L_asks T) hr (by decide) (by rfl) (pa_cons (pv 1) pa_nil)))
    (pss_cons (ps_set (i := 4) sc_law.nd rfl (.inl rfl) (pe_callTy (call_dictP rfl) (by rfl) T.n_dict (by decide +kernel) (pa_cons (pe_lc (own := [("_law_part_here", 11)]) (g := (gName 11)) (tt := tYes) rfl sc_law.nd (pi_tup (pv 1)) (blkOk_by (N := ["_law_script", "_law_yard_here", "_law_made", "_law_asks_here", "_law_parts", "_law_turn", "_law_told", "_law_found", "_law_name", "_law_path", "_law_numbers_here", "_law_part_here", "_law_row", "_law_term_here"]) (sc := defScope s_law) (by decide +kernel)) (fun _ _ _ _ _ => (pg_name (i := 11) sc_law.nd rfl (.inl rfl))) (fun _ _ _ _ _ => pts_nil) (fun _ _ _ _ _ => (pe_tup (pa_cons (pe_ix ix_tup (pv 11) pe_int (fun _ _ => rfl)) (pa_cons (pv 11) pa_nil))))) pa_nil)))
    (pss_cons (ps_for PassesOwn.never rfl (pi_range1 (by rfl) T.n_range (pa_cons pe_int pa_nil)) (pg_name (i := 5) sc_law.nd rfl (.inl rfl)) (pss_cons (ps_set (i := 6) sc_law.nd rfl (.inl rfl) (pe_c (ok_made_parts T) hr (by decide) (by rfl) (pa_cons (pv 1) pa_nil)))
    (pss_cons (ps_set (i := 7) sc_law.nd rfl (.inl rfl) (pe_c (ok_asks_of T) hr (by decide) (by rfl) (pa_cons (pv 1) pa_nil)))
    (pss_cons (ps_if (PW.pt (pw_or (pt_not (pt_truth (pe_callB call_isi (by rfl) T.n_isinstance (by decide +kernel) (pa_cons (pv 6) (pa_cons (pe_bltn (by rfl) T.n_tuple (by decide +kernel) rfl) pa_nil))) (by intro _; rfl))) (pw_or (pt_cmpR op_ne (pe_callB (call_reprD hq (hu64 hr)) (by rfl) T.n_repr (by decide +kernel) (pa_cons (pv 6) pa_nil)) (pe_callB (call_reprD hq (hu64 hr)) (by rfl) T.n_repr (by decide +kernel) (pa_cons (pv 2) pa_nil)) (nomark _)) (pw_or1 (pt_cmpR op_ne (pe_callB (call_reprK hq (hu64 hr)) (by rfl) T.n_repr (by decide +kernel) (pa_cons (pv 7) pa_nil)) (pe_callB (call_reprK hq (hu64 hr)) (by rfl) T.n_repr (by decide +kernel) (pa_cons (pv 3) pa_nil)) (nomark _)))))) (pss_one (ps_ret pe_bl))
    pss_nil)
    (pss_cons (ps_if (pt_cmp (pc_notN (pe_c (ok_ring_in T) hr (by decide) (by rfl) (pa_cons (pv 7) pa_nil)))) (pss_one (ps_ret pe_bl))
    pss_nil)
    (pss_cons (ps_for PassesOwn.never rfl (pi_list (pe_callTy (call_listD rfl) (by rfl) T.n_list (by decide +kernel) (pa_cons (pv 7) pa_nil))) (pg_name (i := 8) sc_law.nd rfl (.inl rfl)) (pss_one (ps_expr (pe_bm PySem.F.plainAttrs_list PySem.F.slot_list_append PySem.F.type_list_append mt_append (pe_dget (hu_of hr) (pv 7) (pv 8) (fun _ _ => rfl)) (pa_cons pe_str pa_nil)))))
    (pss_one (ps_expr (pe_dclear (pv 7))))))))))
    (pss_cons (ps_for PassesOwn.never rfl (pi_tup (pv 2)) (pg_tup rfl (pgs_cons (pg_name (i := 9) sc_law.nd rfl (.inl rfl)) (pgs_cons (pg_name (i := 8) sc_law.nd rfl (.inl rfl)) (pgs_cons (pg_name (i := 10) sc_law.nd rfl (.inl rfl)) pgs_nil)))) (pss_one (ps_if (pt_not (pt_truth (pe_cG (ok_L_widths_right T) hq hr (by decide) (by rfl) (pa_cons (pe_dget (hu_of hr) (pv 4) (pv 8) (fun _ _ => rfl)) (pa_cons (pv 10) pa_nil))) (by intro _; rfl))) (pss_one (ps_ret pe_bl))
    pss_nil)))
    (pss_cons (ps_for PassesOwn.never rfl (pi_tup (pv 1)) (pg_name (i := 11) sc_law.nd rfl (.inl rfl)) (pss_one (ps_for PassesOwn.never rfl (pi_tup (pe_ix ix_tup (pv 11) pe_int (fun _ _ => rfl))) (pg_name (i := 12) sc_law.nd rfl (.inl rfl)) (pss_one (ps_if (pt_not (pt_truth (pe_callB (cr_all rfl) (by rfl) T.n_all (by decide +kernel) (pa_cons (pe_lc (own := [("_law_term_here", 13)]) (g := (gName 13)) (tt := tYes) rfl sc_law.nd (pi_list (pe_c (ok_L_terms T) hr (by decide) (by rfl) (pa_cons (pv 12) pa_nil))) (blkOk_by (N := ["_law_script", "_law_yard_here", "_law_made", "_law_asks_here", "_law_parts", "_law_turn", "_law_told", "_law_found", "_law_name", "_law_path", "_law_numbers_here", "_law_part_here", "_law_row", "_law_term_here"]) (sc := defScope s_law) (by decide +kernel)) (fun _ _ _ _ _ => (pg_name (i := 13) sc_law.nd rfl (.inl rfl))) (fun _ _ _ _ _ => pts_nil) (fun _ _ _ _ _ => (pe_cG (ok_L_kids_right T) hq hr (by decide) (by rfl) (pa_cons (pv 13) pa_nil)))) pa_nil)) (by intro _; rfl))) (pss_one (ps_ret pe_bl))
    pss_nil)))))
    (pss_one (ps_ret pe_bl)))))))))), vr_law vs H Q E h⟩
theorem facts {P : Program} {w : World} {K : PySem.W.Frag} {h : Heap} {mg : Str → Option Value} {f : Addr} (X : K.In h) (G : h.Ns mainGlobals mg) (hfa : mg ("law" : Str) = some (.ref f)) (c : He.SaysD faD fnD K) (x : exD K = true) :
    ∃ fd : FuncData, (∀ (s : Shared) (v : Value), BindsTo s fd ⟨[v], []⟩ [("_law_script", v)]) ∧ ∀ base : Heap, K.In base → base.Ns mainGlobals mg → FnG P w K mg base 16 f fd ["_law_script"] (sp_law K) := by
  have T : Tx K mg := tx_of X G c x
  obtain ⟨fd, F⟩ := c.def_ 36 (d := dd_law) rfl
  have e := hfa.symm.trans (He.glo_ok X G (c.fact 36 (f := .glo "law") rfl))
  cases e
  have b := FunD.bindsA (ps := ["_law_script"]) F fun _ _ _ _ _ _ us hl => match us, hl with | [_], _ => rfl
  refine ⟨fd, fun s v => b s [v] rfl, fun base _ _ => ?_⟩
  exact fn_law F T
end K17
open PySem PySem.W PySem.Calls PyProof.Rows
set_option maxHeartbeats 0 in
theorem PySem.Challenge.cw_wireyard_k17_what_is_made_and_asked_holds : PySem.Challenge.rw_wireyard_k17_what_is_made_and_asked.Holds := by
  w_on; o_law
  refine HandSHeadRun.head_any (r := K17.R) (q := view K17.R.prog [39]) (H := K17.hk) (ob := K17.ob) (M := 4000) (loose := K17.loose) (d := HandSHeadRun.topDef K17.R.prog 39) (kwd := []) K17.ob_eq
    (by kernel_rfl) (fun s => by kernel_rfl) K17.run (by kernel_rfl) (by kernel_rfl) (by kernel_rfl) (by rfl) (by first | assumption | decide +kernel) (by decide +kernel) ⟨rfl, rfl, rfl, rfl, rfl, by decide +kernel⟩ ?hw ?hc
  case hw => w_witness2
  case hc =>
    refine Z.walk_G (l := PySem.Challenge.rw_wireyard_k17_what_is_made_and_asked) (n := 63) (k := 16) (x := "_law_script") rfl (by decide) (by kernel_rfl) ⟨rfl, by decide, by decide⟩ ?F
    intro w mg fa h Y G hmg0
    obtain ⟨K, KX, c, x⟩ := Y
    have hmg : mg ("law" : PySem.Str) = some (.ref fa) := by
      have e : (HandSHeadRun.topDef K17.R.prog 39).name = ("law" : PySem.Str) := by kernel_rfl
      rw [← e]
      exact hmg0
    obtain ⟨fd, hb, hF⟩ := K17.facts (P := (PySem.Challenge.rw_wireyard_k17_what_is_made_and_asked).prog) (w := w) KX G hmg c x
    exact ⟨K, fd, K17.sp_law K, KX, hb, fun H a ns hl _ hS => ⟨a, ns, rfl, hS, hl, fun _ _ => rfl⟩, hF⟩
