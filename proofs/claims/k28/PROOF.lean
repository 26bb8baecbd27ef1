import PyProof.Rows.All
import Wide.All
import OpenK.AllK
import Wide.FinOn
import Lean
import KE.KStateDown
import HandS.ForMost
import HandS.Walk
import HandS.Evl
import HandS.Flow
import HandS.Style
import HandS.WideBits
import HandS.Defaults
import HandS.IsInst
import HandS.More
import HandS.Replace
import HandS.TupLe
import HandS.RevRange
import HandS.Conv
import HandS.TupAny
import KE.IntTextLaws
import HandS.Head0
import HandS.Head1
import HandS.Head2
import HandS.HeadEnd
import HandS.HeadHook1
import HandS.HeadHook2
import PyProof.ReprRoads
import PyProof.DictUpdate
import HandS.Rev
import HandS.RevTup
import KE.KDictList
import HandS.Small
import HandS.ExcOwn
import HandS.FStr
import HandS.HeadHook3
import HandS.Zip
import KE.KDictZip
import HandS.DictComp
import HandS.Finally
import HandS.Strs
import HandS.SetBool
import HandS.SetKeys
import HandS.OwnEq
import HandS.WordsDict
import HandS.TryOnly
import HandS.WordsExc
import HandS.ExcIs
import HandS.ExcValue
import KE.KDictKeyed
import KE.KeyNested
import KE.KDictLaw
import KE.DatumOrd
import HandS.List
import HandS.SortKw
import HandS.Flt
import PySem.Challenge.RW_wireyard_k28_diagrams
set_option Elab.async false
set_option linter.all false
set_option maxRecDepth 100000
set_option maxHeartbeats 4000000
/-! Z: my own short steps over the hand layer: one lemma a reading, in the order in which the code runs; heaps are letters, joined by Ex. -/
namespace Z
open PySem PySem.Spec PyProof.Rows L2
open Evl (Ex ex_l ex_t ex_rd sq_of st_of fresh_back)

/-! ### short names of readings -/
abbrev rAddI : R2 := rI0 fun i j => .int (i + j)
abbrev rSubI : R2 := rI0 fun i j => .int (i - j)
abbrev rMulI : R2 := rI CMul fun i j => .int (i * j)
abbrev rMulX : R2 := rI CMulX fun i j => .int (i * j)
abbrev rDivI : R2 := rI CDiv fun i j => .int (i / j)
abbrev rDivW : R2 := rI CDivW fun i j => .int (i / j)
abbrev rIndexS : V → List V → Hp → VK → Prop := fun x xs H Q => ∃ a b i rest, x = .str a ∧ xs = [.str b] ∧ Builtin.Str.occurrences a b 0 a.length 1 = i :: rest ∧ Q (.int (i : Nat)) H
abbrev rModI : R2 := rI (fun _ j => 0 < j) fun i j => .int (i % j)
abbrev rPowI : R2 := rI CPow fun i j => .int (i ^ j.toNat)
abbrev rShlI : R2 := rI CShl fun i j => .int (i * 2 ^ j.toNat)
abbrev rShrI : R2 := rI (fun _ j => 0 ≤ j) fun i j => .int (i / 2 ^ j.toNat)
abbrev rAndI : R2 := rI0 fun i j => .int (Builtin.bitAnd i j)
abbrev rOrI : R2 := rI0 fun i j => .int (Builtin.bitOr i j)
abbrev rXorI : R2 := rI0 fun i j => .int (Builtin.bitXor i j)
abbrev rLtI : R2 := rI0 fun i j => .bl (decide (i < j))
abbrev rLeI : R2 := rI0 fun i j => .bl (decide (i ≤ j))
abbrev rGtI : R2 := rI0 fun i j => .bl (decide (j < i))
abbrev rGeI : R2 := rI0 fun i j => .bl (decide (j ≤ i))
abbrev rNegI : V → Hp → VK → Prop := rU fun i => .int (-i)
def rAddStr : R2 := fun x y H Q => ∃ i j, x = .str i ∧ y = .str j ∧ i.length + j.length ≤ sizeLine ∧ Q (.str (i ++ j)) H
def rInSgn : R2 := fun x y H Q => ∃ (c : Nat) (z : Str), x = .str ⟨#[c]⟩ ∧ y = .str z ∧ Q (.bl (decide (c ∈ z.cps.toList))) H
def rNinSgn : R2 := fun x y H Q => ∃ (c : Nat) (z : Str), x = .str ⟨#[c]⟩ ∧ y = .str z ∧ Q (.bl (!decide (c ∈ z.cps.toList))) H
abbrev cLenSeq (K : PySem.W.Frag) : List V → Hp → VK → Prop := fun xs H Q => ∃ p ys, xs = [.ref p] ∧ (SqL K H p ys ∨ SqT K H p ys) ∧ Q (.int ys.length) H
abbrev cLenStr : List V → Hp → VK → Prop := fun xs H Q => ∃ z, xs = [.str z] ∧ z.length ≤ sizeLine ∧ Q (.int z.length) H
abbrev cInt1 : List V → Hp → VK → Prop := fun xs H Q => (∃ i, xs = [.int i] ∧ Q (.int i) H) ∨ ∃ k, xs = [.bl k] ∧ Q (.int (if k then 1 else 0)) H
abbrev cMax2 : List V → Hp → VK → Prop := fun xs H Q => ∃ i j, xs = [.int i, .int j] ∧ Q (.int (if j > i then j else i)) H
abbrev cMin2 : List V → Hp → VK → Prop := fun xs H Q => ∃ i j, xs = [.int i, .int j] ∧ Q (.int (if j < i then j else i)) H
abbrev rIsBl : R2 := fun x y H Q => ∃ a b, x = .bl a ∧ y = .bl b ∧ Q (.bl (decide (a = b))) H
abbrev rNotBl : R2 := fun x y H Q => ∃ a b, x = .bl a ∧ y = .bl b ∧ Q (.bl (!decide (a = b))) H
def rMulStr : R2 := fun x y H Q => ∃ (s : Str) (n : Int), x = .str s ∧ y = .int n ∧ MulOk s n ∧ Q (.str (Txt.mul s n)) H
theorem op_mul_str {X : Cx} : OpR X (binaryOp .Mult) rMulStr := fun pins s σ H x y v u Q I rx ry h => by
  obtain ⟨z, n, rfl, rfl, hz, q⟩ := h
  obtain ⟨t1, rfl⟩ := rx
  obtain ⟨t2, rfl⟩ := ry
  exact SB.mul hz fun t' k => ⟨.str (Txt.mul z n), H, I.tok _, ⟨_, rfl⟩, q⟩
abbrev rJoin (K : PySem.W.Frag) : V → List V → Hp → VK → Prop := fun x xs H Q => ∃ a p, ∃ ys : List Str, x = .str a ∧ xs = [.ref p] ∧ (SqL K H p (ys.map V.str) ∨ SqT K H p (ys.map V.str)) ∧ (ys.map (·.length)).sum + ys.length * a.length ≤ 16777216 ∧ Q (.str (Txt.join a ys)) H
abbrev cStrInt : List V → Hp → VK → Prop := fun xs H Q => ∃ i : Int, xs = [.int i] ∧ i.natAbs.log2 < 1920 ∧ Q (.str (toString i)) H
abbrev cIntStr : List V → Hp → VK → Prop := fun xs H Q => ∃ a n, xs = [.str a] ∧ PySem.intText? a = some n ∧ a.length ≤ 640 ∧ Q (.int n) H
abbrev rPartition : V → List V → Hp → VK → Prop := fun x xs H Q => ∃ a b, x = .str a ∧ xs = [.str b] ∧ (b.length == 0) = false ∧ a.length ≤ sizeLine ∧ ∀ p, H p = none → Q (.ref p) (upd H p (.tup [.str (Txt.partition a b).1, .str (Txt.partition a b).2.1, .str (Txt.partition a b).2.2]))
abbrev rSplit : V → List V → Hp → VK → Prop := fun x xs H Q => ∃ a b, x = .str a ∧ xs = [.str b] ∧ (b.length == 0) = false ∧ a.length + 2 ≤ sizeLine ∧ ∀ p, H p = none → Q (.ref p) (upd H p (.lst ((Txt.split a b).map V.str)))
abbrev rUpper : V → List V → Hp → VK → Prop := fun x xs H Q => ∃ a, x = .str a ∧ xs = [] ∧ a.length ≤ 5592405 ∧ Q (.str (Txt.upper a)) H
abbrev tTru (K : PySem.W.Frag) (ta : TE) : TT := fun σ H Q => ta σ H fun x H' => ∃ k, TruV K x H' k ∧ Q k H'

/-! ### a def of the module and its promise -/
def DX (K : PySem.W.Frag) (mg : Str → Option Value) (x : Str) (st : Stmt) : Prop := ∃ f fd, FunD K x x (defArgs st) (defBody st) (defScope st) [] [] f fd ∧ mg x = some (.ref f)
structure Cal (P : Program) (w : World) (K : PySem.W.Frag) (mg : Str → Option Value) (base : Heap) (k : Nat) (x : Str) (sp : Sp) : Prop where
  ex : ∃ (f : Addr) (fd : FuncData) (ps : List Str), FnOk P w K mg base CX0 k f fd ps sp ∧ mg x = some (.ref f) ∧ PySem.W.keepIn K (.ref f) = true ∧ Binds K fd ps []
section
variable {X : Cx} {k j : Nat} {x : Str} {sp : Sp} {p pos : Pos} {e : Expr} {es : List Expr} {t : TA}
theorem pe_c (c : Cal X.prog X.w X.K X.mg X.base k x sp) (hr : Room j X.A) (hk : k ≤ j) (hg : Gl X x) (ha : PA X (e :: es) t)
    (hdb : (x == ("__debug__" : Str)) = false := by decide) (he : starEach (e :: es) X.env = (false, eval e X.env) :: starEach es X.env := by rfl) (hpl : (backTo pos (starEach es X.env)).any (·.1) = false := by rfl) :
    PE X (.Call (.Name x p) (e :: es) [] pos) (tCall sp [] E0 t) := by
  obtain ⟨f, fd, ps, F, hm, kp, b⟩ := c.ex
  exact pe_call F (hr.mono hk) hg hm kp b .nil pass0 ha hdb he hpl
theorem pe_c0 (c : Cal X.prog X.w X.K X.mg X.base k x sp) (hr : Room j X.A) (hk : k ≤ j) (hg : Gl X x) (hdb : (x == ("__debug__" : Str)) = false := by decide) :
    PE X (.Call (.Name x p) [] [] pos) (tCall sp [] E0 tNil) := by
  obtain ⟨f, fd, ps, F, hm, kp, b⟩ := c.ex
  exact pe_call0 F (hr.mono hk) hg hm kp b .nil pass0 hdb
/-- a name of the module, by its value -/
theorem pe_gc {v : V} (hg : Gl X x) (h : ∃ u, X.mg x = some u ∧ RelV v u) (hd : (x == ("__debug__" : Str)) = false := by decide) : PE X (.Name x pos) (tC v) := by
  obtain ⟨u, hm, r⟩ := h
  exact pe_glob hg hm r hd
end
section
variable {P : Program} {w : World} {K : PySem.W.Frag} {mg : Str → Option Value} {base : Heap}
theorem cal_mk {x : Str} {st : Stmt} {N ps : List Str} {k : Nat} {sp : Sp} {t : TS} (D : DX K mg x st) (S : FnScope N ps (defScope st))
    (hb : ∀ (kV doc pm : Value) (an : Option Addr) (cdv ct : Value) (us : List Value), us.length = ps.length → bindArgs (PySem.W.fnOf x x (defArgs st) (defBody st) (defScope st) .none kV doc pm an cdv ct) ⟨us, []⟩ = pure (ps.zip us))
    (len : ∀ vs H Q E, sp vs H Q E → vs.length = ps.length)
    (hd : ∀ (f : Addr) (cdv : Value) (A : Around) (outer : List Env) (s : Shared) (H : Hp) (E : XK), Room k (A.deeper (envOfC x (defScope st) s.heap.objs.size f cdv)) → PSs (cxOf CX0 P w K mg base N x (defScope st) f cdv A outer s H E).nox (defBody st) t)
    (hv : ∀ vs H Q E, sp vs H Q E → t { nx := fun _ H' => Q .non H', rt := Q } (start N vs) H) : Cal P w K mg base (k + 1) x sp := by
  obtain ⟨f, fd, F, hm⟩ := D
  exact ⟨f, fd, ps, F.ok S len fun cdv A outer s H vs Q E hr h => ⟨t, PSs.nox (hd f cdv A outer s H E hr), hv vs H Q E h⟩, hm, F.kp, F.bindsN hb⟩
end
theorem hu64 {A : Around} {k : Nat} (hr : Room k A) : A.units + 64 < cLine := by have := hr.un; omega

/-! ### heaps: the facts of an elder one -/
section
variable {K : PySem.W.Frag} {σ : L2.St} {H H' : Hp} {Q : VK} {QB : Bool → Hp → Prop} {QA : List V → Hp → Prop} {QO : Option Int → Hp → Prop} {D : Ends} {v x y : V} {i j : Int} {a p : Addr} {xs : List V} {s z : Str} {b : Bool}
variable {ta tb te tc : TE} {t u : TT} {tl th : TO} {tr : TA} {ts tu : TS} {r : R2} {g : TG}

theorem szl {n : Nat} (h : n ≤ 1000) : n ≤ sizeLine := Nat.le_trans h (by decide)
theorem szlt {n : Nat} (h : n ≤ 1000) : n < sizeLine := Nat.lt_of_le_of_lt h (by decide)
/-! ### expressions -/
theorem z_var {n : Nat} (h : σ[n]? = some (some v)) (q : Q v H) : tVar n σ H Q := ⟨v, h, q⟩
theorem z_c (q : Q v H) : tC v σ H Q := q
theorem z_op (q : ta σ H fun x H1 => tb σ H1 fun y H2 => r x y H2 Q) : tOp r ta tb σ H Q := q
theorem z_un {r : V → Hp → VK → Prop} (q : ta σ H fun x H1 => r x H1 Q) : tUn r ta σ H Q := q
theorem z_i0 {f : Int → Int → V} (q : Q (f i j) H) : rI0 f (.int i) (.int j) H Q := ⟨i, j, rfl, rfl, q⟩
theorem z_i {C : Int → Int → Prop} {f : Int → Int → V} (h : C i j) (q : Q (f i j) H) : rI C f (.int i) (.int j) H Q := ⟨i, j, rfl, rfl, h, q⟩
theorem z_u {f : Int → V} (q : Q (f i) H) : rU f (.int i) H Q := ⟨i, rfl, q⟩
theorem z_eq (h : scal x y = true) (q : Q (.bl (decide (x = y))) H) : rEq x y H Q := ⟨h, q⟩
theorem z_ne (h : scal x y = true) (q : Q (.bl (!decide (x = y))) H) : rNe x y H Q := ⟨h, q⟩
theorem z_addS (h : s.length + z.length ≤ sizeLine) (q : Q (.str (s ++ z)) H) : rAddStr (.str s) (.str z) H Q := ⟨s, z, rfl, rfl, h, q⟩
theorem z_inS {c : Nat} (q : Q (.bl (decide (c ∈ z.cps.toList))) H) : rInSgn (.str ⟨#[c]⟩) (.str z) H Q := ⟨c, z, rfl, rfl, q⟩
theorem z_ninS {c : Nat} (q : Q (.bl (!decide (c ∈ z.cps.toList))) H) : rNinSgn (.str ⟨#[c]⟩) (.str z) H Q := ⟨c, z, rfl, rfl, q⟩
theorem z_if (q : t σ H fun c H1 => if c = true then ta σ H1 Q else tb σ H1 Q) : tIf t ta tb σ H Q := q
theorem z_andT (q : ta σ H fun x H1 => ∃ k, TruV K x H1 k ∧ if k = true then tb σ H1 Q else Q x H1) : tAndT K ta tb σ H Q := q
theorem z_orT (q : ta σ H fun x H1 => ∃ k, TruV K x H1 k ∧ if k = true then Q x H1 else tb σ H1 Q) : tOrT K ta tb σ H Q := q
theorem z_notT (q : ta σ H fun x H1 => ∃ k, TruV K x H1 k ∧ Q (.bl (!k)) H1) : tNotT K ta σ H Q := q
theorem z_isN (q : ta σ H fun x H1 => Q (.bl (decide (x = .non))) H1) : tIsN ta σ H Q := q
theorem z_notN (q : ta σ H fun x H1 => Q (.bl (!decide (x = .non))) H1) : tNotN ta σ H Q := q
theorem z_nil (q : QA [] H) : tNil σ H QA := q
theorem z_cons (q : te σ H fun x H1 => tr σ H1 fun xs H2 => QA (x :: xs) H2) : tCons te tr σ H QA := q
theorem z_call {sp : Sp} {E : XK} (q : tr σ H fun vs H1 => sp (vs ++ []) H1 Q E) : tCall sp [] E tr σ H Q := q
theorem z_cb {r : List V → Hp → VK → Prop} (q : tr σ H fun vs H1 => r vs H1 Q) : tCB r tr σ H Q := q
theorem z_lst (q : tr σ H fun xs H1 => xs.length ≤ sizeLine ∧ ∀ p, H1 p = none → Q (.ref p) (upd H1 p (.lst xs))) : tLst tr σ H Q := q
theorem z_tup (q : tr σ H fun xs H1 => xs.length ≤ sizeLine ∧ ∀ p, H1 p = none → Q (.ref p) (upd H1 p (.tup xs))) : tTup tr σ H Q := q
theorem z_ixL {l : Addr} (h : SqL K H l xs) (e : atI xs i = some v) (q : Q v H) : rIxL K (.ref l) (.int i) H Q := ⟨l, xs, i, v, rfl, rfl, h, e, q⟩
theorem z_ixT {l : Addr} (h : SqT K H l xs) (e : atI xs i = some v) (q : Q v H) : rIxT K (.ref l) (.int i) H Q := ⟨l, xs, i, v, rfl, rfl, h, e, q⟩
theorem z_ixS {c : Nat} (h : z.length ≤ sizeLine) (e : atI z.cps.toList i = some c) (q : Q (.str ⟨#[c]⟩) H) : rIxS (.str z) (.int i) H Q := ⟨z, i, c, rfl, rfl, h, e, q⟩
theorem z_cat {l m : Addr} {ys : List V} (h : H l = some (.lst xs)) (h2 : H m = some (.lst ys)) (hz : xs.length + ys.length ≤ sizeLine) (q : ∀ p, H p = none → Q (.ref p) (upd H p (.lst (xs ++ ys)))) : rCat (.ref l) (.ref m) H Q := ⟨l, m, xs, ys, rfl, rfl, h, h2, hz, q⟩
theorem z_rep {l : Addr} {k : Int} (h : H l = some (.lst xs)) (h1 : -(2 ^ 63) ≤ k) (h2 : k < 2 ^ 63) (hz : xs.length * k.toNat ≤ sizeLine) (q : ∀ p, H p = none → Q (.ref p) (upd H p (.lst (List.replicate k.toNat xs).flatten))) : rRep (.ref l) (.int k) H Q := ⟨l, k, xs, rfl, rfl, h, h1, h2, hz, q⟩
theorem z_inL {l : Addr} {neg : Bool} (h : SqL K H l xs) (hx : flatV x = true) (hs : xs.all flatV = true) (q : Q (.bl (if neg then !inV x xs else inV x xs)) H) : rIn K neg x (.ref l) H Q := ⟨l, xs, rfl, .inl h, hx, hs, q⟩
theorem z_inT {l : Addr} {neg : Bool} (h : SqT K H l xs) (hx : flatV x = true) (hs : xs.all flatV = true) (q : Q (.bl (if neg then !inV x xs else inV x xs)) H) : rIn K neg x (.ref l) H Q := ⟨l, xs, rfl, .inr h, hx, hs, q⟩
theorem z_lenL {l : Addr} (h : SqL K H l xs) (q : Q (.int xs.length) H) : cLenSeq K [.ref l] H Q := ⟨l, xs, rfl, .inl h, q⟩
theorem z_lenT {l : Addr} (h : SqT K H l xs) (q : Q (.int xs.length) H) : cLenSeq K [.ref l] H Q := ⟨l, xs, rfl, .inr h, q⟩
theorem z_lenS (h : z.length ≤ sizeLine) (q : Q (.int z.length) H) : cLenStr [.str z] H Q := ⟨z, rfl, h, q⟩
theorem z_int1 (q : Q (.int i) H) : cInt1 [.int i] H Q := .inl ⟨i, rfl, q⟩
theorem z_intb (q : Q (.int (if b then 1 else 0)) H) : cInt1 [.bl b] H Q := .inr ⟨b, rfl, q⟩
theorem z_max2 (q : Q (.int (if j > i then j else i)) H) : cMax2 [.int i, .int j] H Q := ⟨i, j, rfl, q⟩
theorem z_min2 (q : Q (.int (if j < i then j else i)) H) : cMin2 [.int i, .int j] H Q := ⟨i, j, rfl, q⟩
theorem z_revL (q : te σ H fun x H1 => ∃ a xs, x = .ref a ∧ SqL K H1 a xs ∧ ∀ p, H1 p = none → Q (.ref p) (upd H1 p (.lst xs.reverse))) : tRevL K te σ H Q := q
theorem z_revL1 (h : SqL K H a xs) (q : ∀ p, H p = none → Q (.ref p) (upd H p (.lst xs.reverse))) : ∃ a' xs', V.ref a = .ref a' ∧ SqL K H a' xs' ∧ ∀ p, H p = none → Q (.ref p) (upd H p (.lst xs'.reverse)) := ⟨a, xs, rfl, h, q⟩
theorem z_isi {T U : String} (h : TyX K H x (.type T)) (e : PySem.W.kitOne K (.type T) (.type U) = some b) (q : Q (.bl b) H) : rIsi K [x, .ty U] H Q := ⟨x, _, _, _, b, rfl, .ty U, h, e, q⟩
theorem z_dnew (q : ∀ p, H p = none → Q (.ref p) (upd H p (.dK []))) : tDNewK σ H Q := q
theorem z_isbl {c d : Bool} (q : Q (.bl (decide (c = d))) H) : rIsBl (.bl c) (.bl d) H Q := ⟨c, d, rfl, rfl, q⟩
theorem z_notbl {c d : Bool} (q : Q (.bl (!decide (c = d))) H) : rNotBl (.bl c) (.bl d) H Q := ⟨c, d, rfl, rfl, q⟩
theorem z_mulS {n : Int} (h : MulOk s n) (q : Q (.str (Txt.mul s n)) H) : rMulStr (.str s) (.int n) H Q := ⟨s, n, rfl, rfl, h, q⟩
theorem z_strI (h : i.natAbs.log2 < 1920) (q : Q (.str (toString i)) H) : cStrInt [.int i] H Q := ⟨i, rfl, h, q⟩
theorem z_nopart (q : QO none H) : tNoPart σ H QO := q
theorem z_part (q : te σ H fun x H1 => ∃ i, x = .int i ∧ QO (some i) H1) : tPart te σ H QO := q
theorem z_part1 {R : Int → Prop} (q : R i) : ∃ j, V.int i = .int j ∧ R j := ⟨i, rfl, q⟩
theorem z_sl {r : V → Option Int → Option Int → Hp → VK → Prop} (q : te σ H fun x H1 => tl σ H1 fun l H2 => th σ H2 fun u H3 => r x l u H3 Q) : tSl r te tl th σ H Q := q
theorem z_slL {lo hi : Option Int} (h : SqL K H a xs) (q : ∀ p, H p = none → Q (.ref p) (upd H p (.lst (cutV xs lo hi)))) : rSlL K (.ref a) lo hi H Q := ⟨a, xs, rfl, h, q⟩
theorem z_slS {lo hi : Option Int} (h : z.length ≤ sizeLine) (q : Q (.str (cutS z lo hi)) H) : rSlS (.str z) lo hi H Q := ⟨z, rfl, h, q⟩
theorem z_chain {r r' : R2} (q : ta σ H fun x H1 => tb σ H1 fun y H2 => r x y H2 fun z H3 => ∃ k, z = .bl k ∧ if k = true then tc σ H3 fun w' H4 => r' y w' H4 Q else Q (.bl false) H3) : tChain r r' ta tb tc σ H Q := q

/-! ### truth -/
theorem z_test (q : te σ H fun x H' => ∃ k, x = .bl k ∧ QB k H') : tTest te σ H QB := q
theorem z_tB (q : te σ H fun x H' => ∃ k, x = .bl k ∧ QB k H') : tB te σ H QB := q
theorem z_bl {R : Bool → Prop} (q : R b) : ∃ k, V.bl b = .bl k ∧ R k := ⟨b, rfl, q⟩
theorem z_tru (q : ta σ H fun x H' => ∃ k, TruV K x H' k ∧ QB k H') : tTru K ta σ H QB := q
theorem z_trub {R : Bool → Prop} (q : R b) : ∃ k, TruV K (.bl b) H k ∧ R k := ⟨b, rfl, q⟩
theorem z_trui {R : Bool → Prop} (q : R (i != 0)) : ∃ k, TruV K (.int i) H k ∧ R k := ⟨_, rfl, q⟩
theorem z_trun {R : Bool → Prop} (q : R false) : ∃ k, TruV K .non H k ∧ R k := ⟨_, rfl, q⟩
theorem z_trul {R : Bool → Prop} (h : SqL K H a xs) (q : R (!xs.isEmpty)) : ∃ k, TruV K (.ref a) H k ∧ R k := ⟨_, .inl ⟨xs, h, rfl⟩, q⟩
theorem z_and (q : t σ H fun c H1 => if c = true then u σ H1 QB else QB false H1) : tAnd t u σ H QB := q
theorem z_or (q : t σ H fun c H1 => if c = true then QB true H1 else u σ H1 QB) : tOr t u σ H QB := q
theorem z_not (q : t σ H fun c H1 => QB (!c) H1) : tNot t σ H QB := q
theorem z_yes (q : QB true H) : tYes σ H QB := q
theorem ite_t {A B : Prop} (q : A) : if true = true then A else B := by rw [if_pos rfl]; exact q
theorem ite_f {A B : Prop} (q : B) : if false = true then A else B := by rw [if_neg Bool.false_ne_true]; exact q
theorem ite_b {A B : Prop} (h1 : b = true → A) (h2 : b = false → B) : if b = true then A else B := by
  cases b with
  | true => exact ite_t (h1 rfl)
  | false => exact ite_f (h2 rfl)

/-! ### statements -/
theorem z_seq (q : ts { D with nx := tu D } σ H) : tSeq ts tu D σ H := q
theorem z_cut (Mid : L2.St → Hp → Prop) (h : ts { D with nx := Mid } σ H) (q : ∀ σ' H', Mid σ' H' → tu D σ' H') : Evl.tCut ts tu D σ H := ⟨Mid, h, q⟩
theorem z_next (q : D.nx σ H) : tNext D σ H := q
theorem z_ret (q : te σ H D.rt) : tRet te D σ H := q
theorem z_retN (q : D.rt .non H) : tRetN D σ H := q
theorem z_drop (q : te σ H fun _ H1 => D.nx σ H1) : tDrop te D σ H := q
theorem z_ifs (q : t σ H fun b H1 => if b = true then ts D σ H1 else tu D σ H1) : tIfS t ts tu D σ H := q
theorem z_asg (q : te σ H fun x H1 => g x σ H1 D.nx) : tAsg te g D σ H := q
theorem z_brk (q : D.bk σ H) : tBreak D σ H := q
theorem z_cont (q : D.ct σ H) : tCont D σ H := q
theorem z_gname {n : Nat} {QS : L2.St → Hp → Prop} (q : QS (σ.set n (some v)) H) : gName n v σ H QS := q
theorem z_aug {n : Nat} {f : Int → Int → Int} (h : σ[n]? = some (some (.int i))) (q : te σ H fun y H1 => ipI f (.int i) y H1 fun z H2 => D.nx (σ.set n (some z)) H2) : tAug n te (ipI f) D σ H := ⟨.int i, h, q⟩
theorem z_ipi {f : Int → Int → Int} (q : Q (.int (f i j)) H) : ipI f (.int i) (.int j) H Q := ⟨i, j, rfl, rfl, q⟩
theorem z_gtup2 {m n : Nat} {QS : L2.St → Hp → Prop} (h : SqT K H a [x, y]) (q : QS ((σ.set m (some x)).set n (some y)) H) : gTup K 2 (gCons (gName m) (gCons (gName n) gNil)) (.ref a) σ H QS := ⟨a, _, rfl, h, rfl, x, [y], rfl, y, [], rfl, rfl, q⟩
theorem z_bm {r : V → List V → Hp → VK → Prop} {T : String} (q : te σ H fun x H1 => tyV K T x H1 ∧ tr σ H1 fun xs H2 => r x xs H2 Q) : tBM K T r te tr σ H Q := q
theorem z_bm0 {r : V → List V → Hp → VK → Prop} {T : String} (q : te σ H fun x H1 => tyV K T x H1 ∧ r x [] H1 Q) : tBM0 K T r te σ H Q := q
theorem z_tyl {R : Prop} (h : SqL K H a xs) (q : R) : tyV K "list" (.ref a) H ∧ R := ⟨.inl ⟨rfl, xs, h⟩, q⟩
theorem z_tys {R : Prop} (q : R) : tyV K "str" (.str z) H ∧ R := ⟨rfl, q⟩
theorem z_rapp (h : H a = some (.lst xs)) (hz : xs.length < sizeLine) (q : Q .non (upd H a (.lst (xs ++ [v])))) : rAppend (.ref a) [v] H Q := ⟨a, xs, v, rfl, rfl, h, hz, q⟩
theorem z_rext {c : Addr} {ys : List V} (h : H a = some (.lst xs)) (h2 : H c = some (.lst ys)) (hz : xs.length + ys.length ≤ sizeLine) (q : Q .non (upd H a (.lst (xs ++ ys)))) : rExtend (.ref a) [.ref c] H Q := ⟨a, c, xs, ys, rfl, rfl, h, h2, hz, q⟩
theorem z_rpop (h : H a = some (.lst xs)) (e : xs[xs.length - 1]? = some v) (q : Q v (upd H a (.lst xs.dropLast))) : rPop (.ref a) [] H Q := ⟨a, xs, v, rfl, rfl, h, e, q⟩
end
/-! ### loops -/
def FW (J : It) (g : TG) (tb : TS) (D : Ends) (σ : L2.St) (H1 : Hp) : Prop := ∃ W : Nat → Nat → L2.St → Hp → Prop, (∃ m, W 0 m σ H1) ∧ ∀ i m σ H, W i m σ H →
  (J.stop i H ∧ D.nx σ H) ∨ (J.go i H ∧ ∃ N : L2.St → Hp → Prop, (∀ σ' H', N σ' H' → ∃ m', m' < m ∧ W (i + 1) m' σ' H') ∧ ∀ x H', J.yld i H x H' → g x σ H' fun σ2 H2 => tb { D with nx := N, ct := N, bk := D.nx } σ2 H2)
def FL (K : PySem.W.Frag) (g : TG) (tb : TS) (D : Ends) (σ : L2.St) (x : V) (H1 : Hp) : Prop := ∃ a, x = .ref a ∧ (∃ xs, SqL K H1 a xs) ∧ FW (Itl K a) g tb D σ H1
def FT (K : PySem.W.Frag) (g : TG) (tb : TS) (D : Ends) (σ : L2.St) (x : V) (H1 : Hp) : Prop := ∃ a, x = .ref a ∧ (∃ xs, SqT K H1 a xs) ∧ FW (Itt K a) g tb D σ H1
def FS (g : TG) (tb : TS) (D : Ends) (σ : L2.St) (v : V) (H1 : Hp) : Prop := ∃ x, v = .str x ∧ FW (Its x) g tb D σ H1
def FR1 (g : TG) (tb : TS) (D : Ends) (σ : L2.St) (vs : List V) (H1 : Hp) : Prop := ∃ j : Int, vs = [.int j] ∧ -(2 ^ 62) ≤ j ∧ j < 2 ^ 62 ∧ FW (Itr 0 j.toNat) g tb D σ H1
def FR2 (g : TG) (tb : TS) (D : Ends) (σ : L2.St) (vs : List V) (H1 : Hp) : Prop := ∃ i j : Int, vs = [.int i, .int j] ∧ (-(2 ^ 62) ≤ i ∧ i < 2 ^ 62 ∧ -(2 ^ 62) ≤ j ∧ j < 2 ^ 62) ∧ FW (Itr i (j - i).toNat) g tb D σ H1
def FZ (K : PySem.W.Frag) (g : TG) (tb : TS) (D : Ends) (σ : L2.St) (vs : List V) (H1 : Hp) : Prop := ∃ a b xs ys, vs = [.ref a, .ref b] ∧ SqL K H1 a xs ∧ SqL K H1 b ys ∧ FW (Itz K a b) g tb D σ H1
def FE (K : PySem.W.Frag) (g : TG) (tb : TS) (D : Ends) (σ : L2.St) (vs : List V) (H1 : Hp) : Prop := ∃ a xs, vs = [.ref a] ∧ SqL K H1 a xs ∧ FW (Ite K a) g tb D σ H1
section
variable {K : PySem.W.Frag} {σ : L2.St} {H : Hp} {D : Ends} {g : TG} {tb tu : TS} {te : TE} {ta : TA} {a b : Addr} {xs ys : List V}
theorem z_fl (q : te σ H fun x H1 => FL K g tb D σ x H1) : tFor (iList K te) g tb D σ H := q
theorem z_ft (q : te σ H fun x H1 => FT K g tb D σ x H1) : tFor (iTup K te) g tb D σ H := q
theorem z_fs (q : te σ H fun x H1 => FS g tb D σ x H1) : tFor (iStr te) g tb D σ H := q
theorem z_fr1 (q : ta σ H fun x H1 => FR1 g tb D σ x H1) : tFor (iRng1 ta) g tb D σ H := q
theorem z_fr2 (q : ta σ H fun x H1 => FR2 g tb D σ x H1) : tFor (iRng2 ta) g tb D σ H := q
theorem z_fz (q : ta σ H fun x H1 => FZ K g tb D σ x H1) : tFor (iZip K ta) g tb D σ H := q
theorem z_fe (q : ta σ H fun x H1 => FE K g tb D σ x H1) : tFor (iEnum K ta) g tb D σ H := q
/-- over a list: Pv by the turn, the slots, the heap -/
theorem z_FL (hx : SqL K H a xs) (Pv : Nat → L2.St → Hp → Prop) (h0 : Pv 0 σ H) (hG : ∀ i σ H, i ≤ xs.length → Pv i σ H → SqL K H a xs)
    (hs : ∀ i x σ H, i < xs.length → xs[i]? = some x → Pv i σ H → g x σ H fun σ2 H2 => tb { D with nx := Pv (i + 1), ct := Pv (i + 1), bk := D.nx } σ2 H2) (hd : ∀ σ H, Pv xs.length σ H → D.nx σ H) : FL K g tb D σ (.ref a) H :=
  ⟨a, rfl, ⟨xs, hx⟩, for_it walk_list Pv h0 hG (fun i x σ H H' hi p y => by
    obtain ⟨rfl, e⟩ := y
    exact hs i x σ _ hi e p) hd⟩
theorem z_FT (hx : SqT K H a xs) (Pv : Nat → L2.St → Hp → Prop) (h0 : Pv 0 σ H) (hG : ∀ i σ H, i ≤ xs.length → Pv i σ H → SqT K H a xs)
    (hs : ∀ i x σ H, i < xs.length → xs[i]? = some x → Pv i σ H → g x σ H fun σ2 H2 => tb { D with nx := Pv (i + 1), ct := Pv (i + 1), bk := D.nx } σ2 H2) (hd : ∀ σ H, Pv xs.length σ H → D.nx σ H) : FT K g tb D σ (.ref a) H :=
  ⟨a, rfl, ⟨xs, hx⟩, for_it walk_tup Pv h0 hG (fun i x σ H H' hi p y => by
    obtain ⟨rfl, e⟩ := y
    exact hs i x σ _ hi e p) hd⟩
theorem z_FS {z : Str} (Pv : Nat → L2.St → Hp → Prop) (h0 : Pv 0 σ H)
    (hs : ∀ i (c : Nat) σ H, i < z.cps.size → z.cps[i]? = some c → Pv i σ H → g (.str ⟨#[c]⟩) σ H fun σ2 H2 => tb { D with nx := Pv (i + 1), ct := Pv (i + 1), bk := D.nx } σ2 H2) (hd : ∀ σ H, Pv z.cps.size σ H → D.nx σ H) : FS g tb D σ (.str z) H :=
  ⟨z, rfl, for_it walk_str Pv h0 (fun _ _ _ _ _ => trivial) (fun i x σ H H' hi p y => by
    obtain ⟨rfl, c, e, rfl⟩ := y
    exact hs i c σ _ hi e p) hd⟩
theorem z_FR1 {n : Int} (hn : -(2 ^ 62) ≤ n ∧ n < 2 ^ 62) (Pv : Nat → L2.St → Hp → Prop) (h0 : Pv 0 σ H)
    (hs : ∀ (i : Nat) σ H, i < n.toNat → Pv i σ H → g (.int (i : Int)) σ H fun σ2 H2 => tb { D with nx := Pv (i + 1), ct := Pv (i + 1), bk := D.nx } σ2 H2) (hd : ∀ σ H, Pv n.toNat σ H → D.nx σ H) : FR1 g tb D σ [.int n] H :=
  ⟨n, rfl, hn.1, hn.2, for_it walk_range Pv h0 (fun _ _ _ _ _ => trivial) (fun i x σ H H' hi p y => by
    obtain ⟨rfl, rfl⟩ := y
    show g (.int (0 + (i : Int))) σ H' _
    rw [Int.zero_add]
    exact hs i σ _ hi p) hd⟩
theorem z_FZ {n : Nat} (hn : n = min xs.length ys.length) (hx : SqL K H a xs) (hy : SqL K H b ys) (Pv : Nat → L2.St → Hp → Prop) (h0 : Pv 0 σ H) (hG : ∀ i σ H, i ≤ n → Pv i σ H → SqL K H a xs ∧ SqL K H b ys)
    (hs : ∀ i x y p σ H H', i < n → xs[i]? = some x → ys[i]? = some y → Pv i σ H → Ex H H' → H p = none → H' = upd H p (.tup [x, y]) → g (.ref p) σ H' fun σ2 H2 => tb { D with nx := Pv (i + 1), ct := Pv (i + 1), bk := D.nx } σ2 H2) (hd : ∀ σ H, Pv n σ H → D.nx σ H) : FZ K g tb D σ [.ref a, .ref b] H :=
  ⟨a, b, xs, ys, rfl, hx, hy, for_it (walk_zip hn) Pv h0 hG (fun i x σ H H' hi p y => by
    obtain ⟨T, u, v, rfl, e1, rfl, e3, e4⟩ := y
    exact hs i u v T σ _ _ hi e3 e4 p (Ex.new e1) e1 rfl) hd⟩
theorem z_FE (hx : SqL K H a xs) (Pv : Nat → L2.St → Hp → Prop) (h0 : Pv 0 σ H) (hG : ∀ i σ H, i ≤ xs.length → Pv i σ H → SqL K H a xs)
    (hs : ∀ i x p σ H H', i < xs.length → xs[i]? = some x → Pv i σ H → Ex H H' → H p = none → H' = upd H p (.tup [.int (i : Nat), x]) → g (.ref p) σ H' fun σ2 H2 => tb { D with nx := Pv (i + 1), ct := Pv (i + 1), bk := D.nx } σ2 H2) (hd : ∀ σ H, Pv xs.length σ H → D.nx σ H) : FE K g tb D σ [.ref a] H :=
  ⟨a, xs, rfl, hx, for_it walk_enum Pv h0 hG (fun i x σ H H' hi p y => by
    obtain ⟨T, u, v, rfl, e1, rfl, e3, e4⟩ := y
    cases e3
    exact hs i v T σ _ _ hi e4 p (Ex.new e1) e1 rfl) hd⟩
theorem z_while {tc : TT} (W : Nat → L2.St → Hp → Prop) (m : Nat) (h0 : W m σ H) (hs : ∀ m σ H, W m σ H → tc σ H fun b H1 => if b = true then ∃ N : L2.St → Hp → Prop, (∀ σ' H', N σ' H' → ∃ m', m' < m ∧ W m' σ' H') ∧ tb { D with nx := N, ct := N, bk := D.nx } σ H1 else D.nx σ H1) : tWhile tc tb D σ H := ⟨W, ⟨m, h0⟩, hs⟩
end
/-! ### comprehensions -/
def CW (J : It) (g : TG) (tt : TT) (te : TE) (vs : List Nat) (σ : L2.St) (H1 : Hp) (Q : VK) : Prop := ∀ D, H1 D = none → ∃ W : Nat → Nat → Hp → Prop, (∃ m, W 0 m (upd H1 D (.lst []))) ∧ ∀ i m H, W i m H →
  (J.stop i H ∧ Q (.ref D) H) ∨ (J.go i H ∧ ∃ Nx : Hp → Prop, (∀ H', Nx H' → ∃ m', m' < m ∧ W (i + 1) m' H') ∧ ∀ x H', J.yld i H x H' → g x (wipe σ vs) H' fun σ2 H2 => wipe σ2 vs = wipe σ vs ∧ tt σ2 H2 fun b H3 =>
    if b = true then te σ2 H3 fun y H4 => ∃ acc, H4 D = some (.lst acc) ∧ acc.length < sizeLine ∧ Nx (upd H4 D (.lst (acc ++ [y]))) else Nx H3)
def CL (K : PySem.W.Frag) (g : TG) (tt : TT) (te : TE) (vs : List Nat) (σ : L2.St) (x : V) (H1 : Hp) (Q : VK) : Prop := ∃ a, x = .ref a ∧ (∃ xs, SqL K H1 a xs) ∧ CW (Itl K a) g tt te vs σ H1 Q
def CS (g : TG) (tt : TT) (te : TE) (vs : List Nat) (σ : L2.St) (x : V) (H1 : Hp) (Q : VK) : Prop := ∃ z, x = .str z ∧ CW (Its z) g tt te vs σ H1 Q
def CR1 (g : TG) (tt : TT) (te : TE) (vs : List Nat) (σ : L2.St) (xs : List V) (H1 : Hp) (Q : VK) : Prop := ∃ j : Int, xs = [.int j] ∧ -(2 ^ 62) ≤ j ∧ j < 2 ^ 62 ∧ CW (Itr 0 j.toNat) g tt te vs σ H1 Q
def CRv (g : TG) (tt : TT) (te : TE) (vs : List Nat) (σ : L2.St) (x : V) (H1 : Hp) (Q : VK) : Prop := ∃ n : Int, x = .int n ∧ (-(2 ^ 62) ≤ (0 : Int) ∧ (0 : Int) < 2 ^ 62 ∧ -(2 ^ 62) ≤ n ∧ n < 2 ^ 62 ∧ CW (Itc (0 + (((n - 0).toNat : Nat) : Int) - 1) (-1) (n - 0).toNat) g tt te vs σ H1 Q)
section
variable {K : PySem.W.Frag} {σ : L2.St} {H : Hp} {Q : VK} {g : TG} {tt : TT} {te tl : TE} {ta : TA} {vs : List Nat} {a : Addr} {xs : List V} {J : It} {n j : Nat} {G : Hp → Prop}
theorem z_cl (q : tl σ H fun x H1 => CL K g tt te vs σ x H1 Q) : tLc (iList K tl) g tt te vs σ H Q := q
theorem z_cs (q : tl σ H fun x H1 => CS g tt te vs σ x H1 Q) : tLc (iStr tl) g tt te vs σ H Q := q
theorem z_cr1 (q : ta σ H fun x H1 => CR1 g tt te vs σ x H1 Q) : tLc (iRng1 ta) g tt te vs σ H Q := q
theorem z_crv (q : tl σ H fun x H1 => CRv g tt te vs σ x H1 Q) : tLc (iRevR (tRg1 tl)) g tt te vs σ H Q := q
/-- things without objects of their own -/
theorem z_CW {X : Nat → V} (w : Walk J n G (fun i H x H' => H' = H ∧ x = X i)) (hn : n ≤ 40000) (hG : ∀ H', Ex H H' → G H') (f : Nat → Bool) (v : Nat → V) (hw : ∀ x, wipe ((wipe σ vs).set j (some x)) vs = wipe σ vs)
    (ht : ∀ i H', i < n → Ex H H' → Evl.EvT tt ((wipe σ vs).set j (some (X i))) H' (f i)) (he : ∀ i H', i < n → Ex H H' → f i = true → Evl.Ev te ((wipe σ vs).set j (some (X i))) H' (v i))
    (q : ∀ p H2, H p = none → Ex H H2 → H2 p = some (.lst (Evl.given n f v)) → Q (.ref p) H2) : CW J (gName j) tt te vs σ H Q := fun Dl hD =>
  lc_it w (Evl.Cw H f v Dl) ⟨hD, Ex.new hD, upd_same⟩ (fun _ _ _ p => hG _ p.2.1) (fun i x H1 H2 hi p y => by
    obtain ⟨rfl, rfl⟩ := y
    exact ⟨hw _, Evl.cw_turn p (by omega) (ht i H hi (Ex.refl H)) (fun hf => he i H hi (Ex.refl H) hf)⟩) (fun H' p => q Dl H' p.1 p.2.1 p.2.2)
theorem z_CL (hx : SqL K H a xs) (hz : xs.length ≤ 40000) (f : Nat → Bool) (v : Nat → V) (hw : ∀ x, wipe ((wipe σ vs).set j (some x)) vs = wipe σ vs)
    (ht : ∀ i x H', i < xs.length → xs[i]? = some x → Ex H H' → Evl.EvT tt ((wipe σ vs).set j (some x)) H' (f i)) (he : ∀ i x H', i < xs.length → xs[i]? = some x → Ex H H' → f i = true → Evl.Ev te ((wipe σ vs).set j (some x)) H' (v i))
    (q : ∀ p H2, H p = none → Ex H H2 → H2 p = some (.lst (Evl.given xs.length f v)) → Q (.ref p) H2) : CL K (gName j) tt te vs σ (.ref a) H Q :=
  ⟨a, rfl, ⟨xs, hx⟩, z_CW (X := fun i => xs.getD i .non) (walk_list.mono (fun _ h => h) (fun i H x H' _ _ y => ⟨y.1, by rw [List.getD_eq_getElem?_getD, y.2] <;> rfl⟩)) hz (fun _ e => ex_l e hx) f v hw
    (fun i H' hi e => ht i _ H' hi (by rw [List.getD_eq_getElem?_getD, List.getElem?_eq_getElem hi] <;> rfl) e) (fun i H' hi e hf => he i _ H' hi (by rw [List.getD_eq_getElem?_getD, List.getElem?_eq_getElem hi] <;> rfl) e hf) q⟩
theorem z_CR1 {m : Int} (hn : 0 ≤ m ∧ m ≤ 40000) (f : Nat → Bool) (v : Nat → V) (hw : ∀ x, wipe ((wipe σ vs).set j (some x)) vs = wipe σ vs)
    (ht : ∀ (i : Nat) H', i < m.toNat → Ex H H' → Evl.EvT tt ((wipe σ vs).set j (some (.int (i : Int)))) H' (f i)) (he : ∀ (i : Nat) H', i < m.toNat → Ex H H' → f i = true → Evl.Ev te ((wipe σ vs).set j (some (.int (i : Int)))) H' (v i))
    (q : ∀ p H2, H p = none → Ex H H2 → H2 p = some (.lst (Evl.given m.toNat f v)) → Q (.ref p) H2) : CR1 (gName j) tt te vs σ [.int m] H Q :=
  ⟨m, rfl, by omega, by omega, z_CW (X := fun i => .int (i : Int)) (walk_range.mono (fun _ h => h) (fun i H x H' _ _ y => ⟨y.1, by rw [y.2]; show V.int (0 + (i : Int)) = _; rw [Int.zero_add]⟩)) (by omega) (fun _ _ => trivial) f v hw ht he q⟩
theorem z_CRv {m : Nat} (hn : m ≤ 40000) (f : Nat → Bool) (v : Nat → V) (hw : ∀ x, wipe ((wipe σ vs).set j (some x)) vs = wipe σ vs)
    (ht : ∀ (i : Nat) H', i < m → Ex H H' → Evl.EvT tt ((wipe σ vs).set j (some (.int ((m - 1 - i : Nat) : Int)))) H' (f i)) (he : ∀ (i : Nat) H', i < m → Ex H H' → f i = true → Evl.Ev te ((wipe σ vs).set j (some (.int ((m - 1 - i : Nat) : Int)))) H' (v i))
    (q : ∀ p H2, H p = none → Ex H H2 → H2 p = some (.lst (Evl.given m f v)) → Q (.ref p) H2) : CRv (gName j) tt te vs σ (.int (m : Int)) H Q := by
  refine ⟨m, rfl, by decide, by decide, by omega, by omega, ?_⟩
  have e : ((m : Int) - 0).toNat = m := by omega
  rw [e]
  exact z_CW (X := fun i => .int ((m - 1 - i : Nat) : Int)) (walk_rangeC.mono (fun _ h => h) (fun i H x H' hi _ y => ⟨y.1, by
    rw [y.2]
    show V.int (0 + (m : Int) - 1 + (i : Int) * -1) = _
    congr 1
    omega⟩)) hn (fun _ _ => trivial) f v hw ht he q
theorem z_CS {z : Str} (hz : z.cps.size ≤ 40000) (f : Nat → Bool) (v : Nat → V) (hw : ∀ x, wipe ((wipe σ vs).set j (some x)) vs = wipe σ vs)
    (ht : ∀ i (c : Nat) H', i < z.cps.size → z.cps[i]? = some c → Ex H H' → Evl.EvT tt ((wipe σ vs).set j (some (.str ⟨#[c]⟩))) H' (f i)) (he : ∀ i (c : Nat) H', i < z.cps.size → z.cps[i]? = some c → Ex H H' → f i = true → Evl.Ev te ((wipe σ vs).set j (some (.str ⟨#[c]⟩))) H' (v i))
    (q : ∀ p H2, H p = none → Ex H H2 → H2 p = some (.lst (Evl.given z.cps.size f v)) → Q (.ref p) H2) : CS (gName j) tt te vs σ (.str z) H Q :=
  ⟨z, rfl, z_CW (X := fun i => .str ⟨#[z.cps.getD i 0]⟩) (walk_str.mono (fun _ h => h) (fun i H x H' _ _ y => by
      obtain ⟨e, c, e2, e3⟩ := y
      refine ⟨e, ?_⟩
      rw [e3]; congr 2; simp [Array.getD_eq_getD_getElem?, e2])) hz (fun _ _ => trivial) f v hw
    (fun i H' hi e => ht i _ H' hi (by simp [hi]) e) (fun i H' hi e hf => he i _ H' hi (by simp [hi]) e hf) q⟩
end
end Z
/-! ### data without truths: == is = -/
namespace Z
open PySem PySem.Spec PyProof.Rows L2
mutual
def cl : PyData → Bool
  | .none => true
  | .int _ => true
  | .str x => PyData.canLay0 (.str x)
  | .list xs => clAll xs
  | .tuple xs => clAll xs
  | .bool _ => false
  | .dict _ => false
def clAll : List PyData → Bool
  | [] => true
  | x :: xs => cl x && clAll xs
end
mutual
theorem cl_lay : ∀ d, cl d = true → d.canLay0 = true
  | .none, _ => rfl
  | .int _, _ => rfl
  | .str _, h => h
  | .list xs, h => clAll_lay xs h
  | .tuple xs, h => clAll_lay xs h
  | .bool _, h => by cases h
  | .dict _, h => by cases h
theorem clAll_lay : ∀ xs, clAll xs = true → PyData.canLayAll0 xs = true
  | [], _ => rfl
  | x :: xs, h => by
    have h' := Bool.and_eq_true_iff.mp (show (cl x && clAll xs) = true from h)
    show (x.canLay0 && PyData.canLayAll0 xs) = true
    rw [cl_lay x h'.1, clAll_lay xs h'.2] <;> rfl
end
mutual
theorem eqv_cl : ∀ d e : PyData, cl d = true → cl e = true → PyData.eqv d e = true → d = e
  | .none, e, _, he, h => by cases e <;> first | rfl | cases h
  | .int i, e, _, he, h => by
    cases e with
    | int j => rw [eq_of_beq (show (i == j) = true from h)]
    | bool _ => cases he
    | _ => cases h
  | .str x, e, _, he, h => by
    cases e with
    | str y => rw [eq_of_beq (show (x == y) = true from h)]
    | _ => cases h
  | .list xs, e, hd, he, h => by
    cases e with
    | list ys => rw [eqvAll_cl xs ys hd he h]
    | _ => cases h
  | .tuple xs, e, hd, he, h => by
    cases e with
    | tuple ys => rw [eqvAll_cl xs ys hd he h]
    | _ => cases h
  | .bool _, _, hd, _, _ => by cases hd
  | .dict _, _, hd, _, _ => by cases hd
theorem eqvAll_cl : ∀ xs ys : List PyData, clAll xs = true → clAll ys = true → PyData.eqvAll xs ys = true → xs = ys
  | [], [], _, _, _ => rfl
  | [], _ :: _, _, _, h => by cases h
  | _ :: _, [], _, _, h => by cases h
  | x :: xs, y :: ys, hd, he, h => by
    have h1 := Bool.and_eq_true_iff.mp (show (cl x && clAll xs) = true from hd)
    have h2 := Bool.and_eq_true_iff.mp (show (cl y && clAll ys) = true from he)
    have h3 := Bool.and_eq_true_iff.mp (show (PyData.eqv x y && PyData.eqvAll xs ys) = true from h)
    rw [eqv_cl x y h1.1 h2.1 h3.1, eqvAll_cl xs ys h1.2 h2.2 h3.2]
end
theorem eqv_iff {d e : PyData} (hd : cl d = true) (he : cl e = true) : PyData.eqv d e = true ↔ d = e :=
  ⟨eqv_cl d e hd he, fun h => by
    rw [h]
    exact SeqAt.eqv_refl e (cl_lay e he)⟩
theorem shaped_cl {d : PyData} (hd : cl d = true) (h : d.depth ≤ 64) : SeqAt.shaped d = true := Bool.and_eq_true_iff.mpr ⟨cl_lay d hd, decide_eq_true h⟩
section
variable {K : PySem.W.Frag} {H : Hp} {Q : VK} {x y : V} {d e : PyData}
/-- == over such data -/
theorem z_eqD {b : Bool} (hx : Dp K H x d) (hy : Dp K H y e) (cd : cl d = true) (ce : cl e = true) (dd : d.depth ≤ 64) (de : e.depth ≤ 64) (hb : b = true ↔ d = e) (q : Q (.bl b) H) : rEqD K x y H Q := by
  refine ⟨d, e, hx, hy, shaped_cl cd dd, shaped_cl ce de, ?_⟩
  have e2 : PyData.eqv d e = b := by
    have h := eqv_iff cd ce
    cases hb2 : PyData.eqv d e with
    | true => exact (hb.mpr (h.mp hb2)).symm
    | false =>
      cases b with
      | false => rfl
      | true => exact absurd (h.mpr (hb.mp rfl)) (by rw [hb2]; decide)
  rw [e2]
  exact q
theorem z_neD {b : Bool} (hx : Dp K H x d) (hy : Dp K H y e) (cd : cl d = true) (ce : cl e = true) (dd : d.depth ≤ 64) (de : e.depth ≤ 64) (hb : b = true ↔ d = e) (q : Q (.bl (!b)) H) : rNeD K x y H Q := by
  refine ⟨d, e, hx, hy, shaped_cl cd dd, shaped_cl ce de, ?_⟩
  have e2 : PyData.eqv d e = b := by
    have h := eqv_iff cd ce
    cases hb2 : PyData.eqv d e with
    | true => exact (hb.mpr (h.mp hb2)).symm
    | false =>
      cases b with
      | false => rfl
      | true => exact absurd (h.mpr (hb.mp rfl)) (by rw [hb2]; decide)
  rw [e2]
  exact q
theorem dp_ints : ∀ l : List Int, DpAll K H (l.map V.int) (l.map PyData.int)
  | [] => .nil
  | i :: l => .cons (.int i) (dp_ints l)
theorem cl_ints : ∀ l : List Int, clAll (l.map PyData.int) = true
  | [] => rfl
  | _ :: l => cl_ints l
theorem depth_ints : ∀ l : List Int, PyData.depthAll (l.map PyData.int) = 0
  | [] => rfl
  | i :: l => by
    show max 0 (PyData.depthAll (l.map PyData.int)) = 0
    rw [depth_ints l] <;> rfl
theorem ints_inj {l m : List Int} (h : l.map PyData.int = m.map PyData.int) : l = m := by
  have e := congrArg (List.map fun d => match d with
    | PyData.int i => i
    | _ => 0) h
  rw [List.map_map, List.map_map] at e
  have f : ∀ l : List Int, List.map ((fun d => match d with
    | PyData.int i => i
    | _ => 0) ∘ PyData.int) l = l := fun l => by
    induction l with
    | nil => rfl
    | cons a l ih => rw [List.map_cons, ih] <;> rfl
  rw [f, f] at e
  exact e
theorem z_eqL {a c : Addr} {l m : List Int} {b : Bool} (hx : SqL K H a (l.map V.int)) (hy : SqL K H c (m.map V.int)) (hb : b = true ↔ l = m) (q : Q (.bl b) H) : rEqD K (.ref a) (.ref c) H Q :=
  z_eqD (.lst hx (dp_ints l)) (.lst hy (dp_ints m)) (cl_ints l) (cl_ints m) (by show PyData.depthAll _ + 1 ≤ 64; rw [depth_ints]; decide) (by show PyData.depthAll _ + 1 ≤ 64; rw [depth_ints]; decide)
    (hb.trans ⟨fun h => by rw [h], fun h => ints_inj (by injection h)⟩) q
end
end Z
/-! ### texts as lists of signs -/
namespace Z
open PySem PySem.Spec PyProof.Rows L2
open Evl (Ex ex_l ex_t ex_rd sq_of st_of fresh_back)
def S (l : List Nat) : Str := ⟨l.toArray⟩
theorem S_len (l : List Nat) : (S l).length = l.length := by
  show l.toArray.size = _
  simp
theorem S_size (l : List Nat) : (S l).cps.size = l.length := S_len l
theorem S_tl (l : List Nat) : (S l).cps.toList = l := by
  show l.toArray.toList = l
  simp
theorem S_of (s : Str) : s = S s.cps.toList := by
  cases s with
  | mk a => simp [S]
theorem S_app (l m : List Nat) : S l ++ S m = S (l ++ m) := by
  show (⟨l.toArray ++ m.toArray⟩ : Str) = ⟨(l ++ m).toArray⟩
  simp
theorem S_inj {l m : List Nat} (h : S l = S m) : l = m := by rw [← S_tl l, h, S_tl]
theorem S_iff {l m : List Nat} : S l = S m ↔ l = m := ⟨S_inj, fun h => by rw [h]⟩
theorem S_get (l : List Nat) (i : Nat) : (S l).cps[i]? = l[i]? := by
  show l.toArray[i]? = _
  simp
/-- a slice by places -/
def cutL (l : List Nat) (lo hi : Option Int) : List Nat := (l.drop (HT.sIx l.length 0 lo)).take (HT.sIx l.length l.length hi - HT.sIx l.length 0 lo)
theorem S_cut (l : List Nat) (lo hi : Option Int) : cutS (S l) lo hi = S (cutL l lo hi) := by
  show (⟨(((S l).cps.toList.drop (HT.sIx (S l).length 0 lo)).take (HT.sIx (S l).length (S l).length hi - HT.sIx (S l).length 0 lo)).toArray⟩ : Str) = _
  rw [S_tl, S_len] <;> rfl
theorem cutL_to (l : List Nat) (n : Nat) : cutL l none (some (n : Int)) = l.take n := by
  unfold cutL
  rw [HT.sIx_none, HT.sIx_nat, List.drop_zero, Nat.sub_zero]
  by_cases h : n ≤ l.length
  · rw [Nat.min_eq_left h]
  · rw [Nat.min_eq_right (by omega), List.take_length, List.take_of_length_le (by omega)]
theorem cutL_from (l : List Nat) (n : Nat) : cutL l (some (n : Int)) none = l.drop n := by
  unfold cutL
  rw [HT.sIx_none, HT.sIx_nat]
  by_cases h : n ≤ l.length
  · rw [Nat.min_eq_left h, List.take_of_length_le (by rw [List.length_drop]; omega)]
  · rw [Nat.min_eq_right (by omega), List.drop_eq_nil_of_le (Nat.le_refl _), List.drop_eq_nil_of_le (by omega), List.take_nil]
theorem cutL_mid (l : List Nat) (m n : Nat) : cutL l (some (m : Int)) (some (n : Int)) = (l.drop m).take (n - m) := by
  unfold cutL
  rw [HT.sIx_nat, HT.sIx_nat]
  by_cases h : m ≤ l.length
  · rw [Nat.min_eq_left h]
    by_cases h2 : n ≤ l.length
    · rw [Nat.min_eq_left h2]
    · rw [Nat.min_eq_right (by omega), List.take_of_length_le (by rw [List.length_drop]; omega), List.take_of_length_le (by rw [List.length_drop]; omega)]
  · rw [List.drop_eq_nil_of_le (by omega), List.drop_eq_nil_of_le (by omega), List.take_nil, List.take_nil]
theorem cutS_le (s : Str) (lo hi : Option Int) : (cutS s lo hi).length ≤ s.length := cutS_length s lo hi
theorem join_S (ls : List (List Nat)) : Txt.join (S []) (ls.map S) = S ls.flatten := by
  rw [TL.join_eq, S_of (Str.join _ _)]
  congr 1
  show TL.tl (Str.join (S []) (ls.map S)) = _
  rw [TL.tl_join]
  have e : TL.tl (S []) = [] := rfl
  have f : ∀ ls : List (List Nat), (ls.map S).map TL.tl = ls := fun ls => by
    rw [List.map_map]
    refine (List.map_congr_left (g := id) fun l _ => S_tl l).trans (List.map_id _)
  rw [e, f]
  have g : ∀ ls : List (List Nat), TL.joinL [] ls = ls.flatten := fun ls => by
    induction ls with
    | nil => rfl
    | cons a r ih =>
      cases r with
      | nil => simp [TL.joinL]
      | cons b r => simp [TL.joinL, ih] at *
  exact g ls
theorem txt_app_len (s z : Str) : (s ++ z).length = s.length + z.length := by
  show (s.cps ++ z.cps).size = _
  rw [Array.size_append] <;> rfl
theorem mul_len (s : Str) (n : Int) (hn : 0 ≤ n) : (Txt.mul s n).length ≤ s.length * n.toNat := by
  unfold Txt.mul
  by_cases h : n < 1
  · rw [if_pos h]
    exact Nat.zero_le _
  · rw [if_neg h]
    by_cases h2 : (n == 1 || s.length == 0) = true
    · rw [if_pos h2]
      exact Nat.le_mul_of_pos_right _ (by omega)
    · rw [if_neg h2]
      show ((List.replicate n.toNat s.cps).foldl (· ++ ·) #[]).size ≤ _
      have g : ∀ (k : Nat) (a : Array Nat), ((List.replicate k s.cps).foldl (· ++ ·) a).size = a.size + s.length * k := fun k => by
        induction k with
        | zero => intro a; simp
        | succ k ih =>
          intro a
          rw [List.replicate_succ, List.foldl_cons, ih, Array.size_append, Nat.mul_succ]
          show a.size + s.cps.size + s.length * k = a.size + (s.length * k + s.cps.size)
          omega
      rw [g]
      simp
theorem mul_ok (s : Str) (n : Int) (h0 : 0 ≤ n) (hn : n ≤ 1000) (hs : s.length ≤ 1000) : MulOk s n := by
  refine ⟨by rw [decide_eq_false (by omega), decide_eq_false (by omega)] <;> rfl, fun h _ => ?_, fun h _ => ?_⟩
  · have : (2 ^ 63 - 1) / 1000 ≤ (2 ^ 63 - 1 : Int) / n := by
      rw [Int.le_ediv_iff_mul_le (by omega)]
      have : (2 ^ 63 - 1 : Int) / 1000 * n ≤ (2 ^ 63 - 1) / 1000 * 1000 := Int.mul_le_mul_of_nonneg_left hn (by decide)
      exact Int.le_trans this (by decide)
    have e : ((2 ^ 63 - 1 : Int)) / 1000 = 9223372036854775 := by decide
    omega
  · have : s.length * n.toNat ≤ 1000 * 1000 := Nat.mul_le_mul hs (by omega)
    show decide (s.length * n.toNat > sizeLine) = false
    exact decide_eq_false (by rw [sizeLine_eq]; omega)
end Z
/-! ### a head's facts and one test more -/
namespace Z
open PySem PySem.Spec PyProof.Rows L2 He
def lookZ (fa : List Fa) (fn : List DefD) (ex : PySem.W.Frag → Bool) (n : Nat) (g : Addr → Option Obj) : AlD × Bool :=
  (obsD fa fn (frG g (asD g n)), ex (frG g (asD g n)))
def hookZ (fa : List Fa) (fn : List DefD) (ex : PySem.W.Frag → Bool) (n : Nat) : PySem.W.Hook where
  α := AlD × Bool
  obs := fun st => lookZ fa fn ex n st.heap.get?
  val := fun _ => (valD fn, true)
  says := fun _ hp => ∃ F : PySem.W.Frag, F.In hp ∧ SaysD fa fn F ∧ ex F = true
  of := fun _ _ eq => ⟨_, frG_in, congrArg Prod.fst eq, congrArg Prod.snd eq⟩
  keeps := fun _ _ _ ⟨F, hF, cF, xF⟩ kp => ⟨F, PySem.W.Frag.In.keeps hF kp, cF, xF⟩
theorem lookZ_eq {fa : List Fa} {fn : List DefD} {ex : PySem.W.Frag → Bool} {n : Nat} {g : Addr → Option Obj} {st : Shared} (hg : ∀ a, g a = st.heap.get? a) : lookZ fa fn ex n g = (hookZ fa fn ex n).obs st := by
  have e : g = st.heap.get? := funext hg
  subst e
  rfl
end Z
/-! ### data, an elder heap's -/
namespace Z
open PySem PySem.Spec PyProof.Rows L2
open Evl (Ex ex_l ex_t ex_rd sq_of st_of fresh_back)
mutual
theorem dp_mono {K : PySem.W.Frag} {H H' : Hp} (e : Ex H H') : ∀ {v : V} {d : PyData}, Dp K H v d → Dp K H' v d
  | _, _, .non => .non
  | _, _, .bl b => .bl b
  | _, _, .int i => .int i
  | _, _, .str x => .str x
  | _, _, .lst s a => .lst (ex_l e s) (dpAll_mono e a)
  | _, _, .tup s a => .tup (ex_t e s) (dpAll_mono e a)
theorem dpAll_mono {K : PySem.W.Frag} {H H' : Hp} (e : Ex H H') : ∀ {vs : List V} {ds : List PyData}, DpAll K H vs ds → DpAll K H' vs ds
  | _, _, .nil => .nil
  | _, _, .cons a r => .cons (dp_mono e a) (dpAll_mono e r)
end
theorem dpAll_app {K : PySem.W.Frag} {H : Hp} : ∀ {vs us : List V} {ds es : List PyData}, DpAll K H vs ds → DpAll K H us es → DpAll K H (vs ++ us) (ds ++ es)
  | _, _, _, _, .nil, b => b
  | _, _, _, _, .cons a r, b => .cons a (dpAll_app r b)
theorem dpAll_len {K : PySem.W.Frag} {H : Hp} : ∀ {vs : List V} {ds : List PyData}, DpAll K H vs ds → vs.length = ds.length
  | _, _, .nil => rfl
  | _, _, .cons _ r => by rw [List.length_cons, List.length_cons, dpAll_len r]
theorem dpAll_get {K : PySem.W.Frag} {H : Hp} : ∀ {vs : List V} {ds : List PyData} {i : Nat} {v : V}, DpAll K H vs ds → vs[i]? = some v → ∃ d, ds[i]? = some d ∧ Dp K H v d
  | _, _, _, _, .nil, h => by simp at h
  | _, _, 0, _, .cons a _, h => by
    cases h
    exact ⟨_, rfl, a⟩
  | _, _, i + 1, _, .cons _ r, h => dpAll_get (i := i) r h
theorem ty_tup {K : PySem.W.Frag} {H : Hp} {a : Addr} {xs : List V} (h : SqT K H a xs) : TyX K H (.ref a) (.type "tuple") := by
  rcases h with (h | ⟨o, h⟩) | ⟨o, its, n, h, hc, _⟩
  · exact .base (.tup h)
  · exact .fTuple h
  · exact .kTuple h hc
theorem ty_lst {K : PySem.W.Frag} {H : Hp} {a : Addr} {xs : List V} (h : SqL K H a xs) : TyX K H (.ref a) (.type "list") := by
  rcases h with (h | ⟨o, h⟩) | ⟨o, its, n, h, hc, _⟩
  · exact .base (.lst h)
  · exact .base (.frz h)
  · exact .kList h hc
/-- a new thing that bears data: I, what was known, grows to J -/
def RetD (K : PySem.W.Frag) (d : PyData) (I H : Hp) (Q : VK) : Prop :=
  ∀ v J H', Ex I J → Ex H H' → Ex J H' → (∀ a o, H a = some o → I a = none → J a = none) → Dp K J v d → Q v H'
/-- a new list of such things -/
def RetLD (K : PySem.W.Frag) (ds : List PyData) (H : Hp) (Q : VK) : Prop :=
  ∀ p xs H', H p = none → Ex H H' → H' p = some (.lst xs) → DpAll K H' xs ds → Q (.ref p) H'
/-- a new tuple over what is known -/
theorem RetD.tup {K : PySem.W.Frag} {ds : List PyData} {I H : Hp} {Q : VK} {p : Addr} {xs : List V} (q : RetD K (.tuple ds) I H Q) (e : Ex I H) (hp : H p = none) (h : DpAll K I xs ds) : Q (.ref p) (upd H p (.tup xs)) := by
  have ip : I p = none := fresh_back e hp
  refine q (.ref p) (upd I p (.tup xs)) _ (Ex.new ip) (Ex.new hp) (fun b o hb => ?_) (fun a o ha hI => ?_) (.tup (st_of upd_same) (dpAll_mono (Ex.new ip) h))
  · by_cases hbp : b = p
    · subst hbp
      rw [upd_same] at hb ⊢
      exact hb
    · rw [upd_ne hbp] at hb ⊢
      exact e b o hb
  · have ne : a ≠ p := fun z => by
      rw [z, hp] at ha
      cases ha
    rw [upd_ne ne]
    exact hI
end Z

set_option Elab.async false
set_option linter.all false
set_option maxRecDepth 100000
set_option maxHeartbeats 4000000
/-! Zc: methods and makings of own classes, in short steps. -/
namespace Z
open PySem PySem.Spec PyProof.Rows L2
/-- a method's text, as it stands behind the top -/
def DM (K : PySem.W.Frag) (C m qual : Str) (st : Stmt) : Prop := ∃ fd, FunD K m qual (defArgs st) (defBody st) (defScope st) [] [] (He.ma K (He.ga K C) m) fd
def inCls (st : Stmt) (j : Nat) : Stmt := match st with
  | .ClassDef (body := b) .. => b.getD j (.Pass ⟨0, 0, 0, 0⟩)
  | _ => .Pass ⟨0, 0, 0, 0⟩
structure CalM (P : Program) (w : World) (K : PySem.W.Frag) (mg : Str → Option Value) (base : Heap) (k : Nat) (C : Addr) (m : Str) (sp : Sp) : Prop where
  ex : ∃ (fd : FuncData) (ps : List Str), FnOk P w K mg base CX0 k (He.ma K C m) fd ps sp ∧ Cls K C ∧ Meth K C m (He.ma K C m) ∧ Binds K fd ps []
structure CalI (P : Program) (w : World) (K : PySem.W.Frag) (mg : Str → Option Value) (base : Heap) (k : Nat) (x : Str) (C : Addr) (sp : Sp) : Prop where
  ex : ∃ (fd : FuncData) (ps : List Str), FnOk P w K mg base CX0 k (He.ma K C "__init__") fd ps sp ∧ Mk K C (He.ma K C "__init__") ∧ mg x = some (.ref C) ∧ Binds K fd ps []
section
variable {P : Program} {w : World} {K : PySem.W.Frag} {mg : Str → Option Value} {base : Heap}
theorem fn_mk {C m qual : Str} {st : Stmt} {N ps : List Str} {k : Nat} {sp : Sp} {t : TS} (D : DM K C m qual st) (S : FnScope N ps (defScope st))
    (hb : ∀ (kV doc pm : Value) (an : Option Addr) (cdv ct : Value) (us : List Value), us.length = ps.length → bindArgs (PySem.W.fnOf m qual (defArgs st) (defBody st) (defScope st) .none kV doc pm an cdv ct) ⟨us, []⟩ = pure (ps.zip us))
    (len : ∀ vs H Q E, sp vs H Q E → vs.length = ps.length)
    (hd : ∀ (f : Addr) (cdv : Value) (A : Around) (outer : List Env) (s : Shared) (H : Hp) (E : XK), Room k (A.deeper (envOfC qual (defScope st) s.heap.objs.size f cdv)) → PSs (cxOf CX0 P w K mg base N qual (defScope st) f cdv A outer s H E).nox (defBody st) t)
    (hv : ∀ vs H Q E, sp vs H Q E → t { nx := fun _ H' => Q .non H', rt := Q } (start N vs) H) : ∃ fd, FnOk P w K mg base CX0 (k + 1) (He.ma K (He.ga K C) m) fd ps sp ∧ Binds K fd ps [] := by
  obtain ⟨fd, F⟩ := D
  exact ⟨fd, F.ok S len fun cdv A outer s H vs Q E hr h => ⟨t, PSs.nox (hd _ cdv A outer s H E hr), hv vs H Q E h⟩, F.bindsN hb⟩
theorem calM_mk {C m qual : Str} {st : Stmt} {N ps : List Str} {k : Nat} {sp : Sp} {t : TS} (c : Cls K (He.ga K C)) (me : Meth K (He.ga K C) m (He.ma K (He.ga K C) m)) (D : DM K C m qual st) (S : FnScope N ps (defScope st))
    (hb : ∀ (kV doc pm : Value) (an : Option Addr) (cdv ct : Value) (us : List Value), us.length = ps.length → bindArgs (PySem.W.fnOf m qual (defArgs st) (defBody st) (defScope st) .none kV doc pm an cdv ct) ⟨us, []⟩ = pure (ps.zip us))
    (len : ∀ vs H Q E, sp vs H Q E → vs.length = ps.length)
    (hd : ∀ (f : Addr) (cdv : Value) (A : Around) (outer : List Env) (s : Shared) (H : Hp) (E : XK), Room k (A.deeper (envOfC qual (defScope st) s.heap.objs.size f cdv)) → PSs (cxOf CX0 P w K mg base N qual (defScope st) f cdv A outer s H E).nox (defBody st) t)
    (hv : ∀ vs H Q E, sp vs H Q E → t { nx := fun _ H' => Q .non H', rt := Q } (start N vs) H) : CalM P w K mg base (k + 1) (He.ga K C) m sp := by
  obtain ⟨fd, F, b⟩ := fn_mk D S hb len hd hv
  exact ⟨fd, ps, F, c, me, b⟩
theorem calI_mk {C qual : Str} {st : Stmt} {N ps : List Str} {k : Nat} {sp : Sp} {t : TS} (M : Mk K (He.ga K C) (He.ma K (He.ga K C) "__init__")) (g : mg C = some (.ref (He.ga K C))) (D : DM K C "__init__" qual st) (S : FnScope N ps (defScope st))
    (hb : ∀ (kV doc pm : Value) (an : Option Addr) (cdv ct : Value) (us : List Value), us.length = ps.length → bindArgs (PySem.W.fnOf "__init__" qual (defArgs st) (defBody st) (defScope st) .none kV doc pm an cdv ct) ⟨us, []⟩ = pure (ps.zip us))
    (len : ∀ vs H Q E, sp vs H Q E → vs.length = ps.length)
    (hd : ∀ (f : Addr) (cdv : Value) (A : Around) (outer : List Env) (s : Shared) (H : Hp) (E : XK), Room k (A.deeper (envOfC qual (defScope st) s.heap.objs.size f cdv)) → PSs (cxOf CX0 P w K mg base N qual (defScope st) f cdv A outer s H E).nox (defBody st) t)
    (hv : ∀ vs H Q E, sp vs H Q E → t { nx := fun _ H' => Q .non H', rt := Q } (start N vs) H) : CalI P w K mg base (k + 1) C (He.ga K C) sp := by
  obtain ⟨fd, F, b⟩ := fn_mk D S hb len hd hv
  exact ⟨fd, ps, F, M, g, b⟩
end
section
variable {X : Cx} {k j : Nat} {x m : Str} {C : Addr} {sp : Sp} {p pos apos : Pos} {e o : Expr} {es : List Expr} {t : TA} {ta : TE}
theorem pe_m {pl : Sem Bool} (c : CalM X.prog X.w X.K X.mg X.base k C m sp) (hr : Room j X.A) (hk : k ≤ j) (he : PE X o ta) (ha : PA X (e :: es) t)
    (h1 : starEach (e :: es) X.env = (false, eval e X.env) :: starEach es X.env := by rfl) (h2 : (backTo pos (starEach es X.env)).any (·.1) = false := by rfl)
    (h3 : eval (.Call (.Attribute o m apos) (e :: es) [] pos) X.env = (eval o X.env >>= fun ov => standAt apos.atName >>= fun _ => holding [ov] (getMethod ov m pl) >>= fun gf => callWith pos gf.1 gf.2 (backTo pos (starEach (e :: es) X.env)) (backToKw pos (keywordEach [] X.env))) := by rfl) :
    PE X (.Call (.Attribute o m apos) (e :: es) [] pos) (tMeth C m sp [] E0 ta t) := by
  obtain ⟨fd, ps, F, hc, hm, b⟩ := c.ex
  exact pe_meth (pl := pl) he hc hm F (hr.mono hk) b .nil pass0 ha h1 h2 h3
theorem pe_m0 {pl : Sem Bool} (c : CalM X.prog X.w X.K X.mg X.base k C m sp) (hr : Room j X.A) (hk : k ≤ j) (he : PE X o ta)
    (h3 : eval (.Call (.Attribute o m apos) [] [] pos) X.env = (eval o X.env >>= fun ov => standAt apos.atName >>= fun _ => holding [ov] (getMethod ov m pl) >>= fun gf => callWith pos gf.1 gf.2 (backTo pos (starEach [] X.env)) (backToKw pos (keywordEach [] X.env))) := by rfl) :
    PE X (.Call (.Attribute o m apos) [] [] pos) (tMeth C m sp [] E0 ta tNil) := by
  obtain ⟨fd, ps, F, hc, hm, b⟩ := c.ex
  exact pe_meth0 (pl := pl) he hc hm F (hr.mono hk) b .nil pass0 h3
theorem pe_i (c : CalI X.prog X.w X.K X.mg X.base k x C sp) (hr : Room j X.A) (hk : k + 1 ≤ j) (hg : Gl X x) (ha : PA X (e :: es) t)
    (hdb : (x == ("__debug__" : Str)) = false := by decide) (h1 : starEach (e :: es) X.env = (false, eval e X.env) :: starEach es X.env := by rfl) (h2 : (backTo pos (starEach es X.env)).any (·.1) = false := by rfl) :
    PE X (.Call (.Name x p) (e :: es) [] pos) (tMake C sp [] E0 t) := by
  obtain ⟨fd, ps, F, M, hm, b⟩ := c.ex
  exact pe_make M F (hr.mono hk) hg hm b .nil pass0 ha hdb h1 h2
theorem pe_i0 (c : CalI X.prog X.w X.K X.mg X.base k x C sp) (hr : Room j X.A) (hk : k + 1 ≤ j) (hg : Gl X x) (hdb : (x == ("__debug__" : Str)) = false := by decide) :
    PE X (.Call (.Name x p) [] [] pos) (tMake C sp [] E0 tNil) := by
  obtain ⟨fd, ps, F, M, hm, b⟩ := c.ex
  exact pe_make0 M F (hr.mono hk) hg hm b .nil pass0 hdb
end
/-! ### steps -/
def FldR (K : PySem.W.Frag) (f : Str) (x : V) (H : Hp) (Q : VK) : Prop := ∃ a C dx fs v, x = .ref a ∧ H a = some (.ins C dx fs) ∧ Cls K C ∧ NoAttr K C f ∧ fs.lookup f = some v ∧ Q v H
def FldW (K : PySem.W.Frag) (f : Str) (y x : V) (σ : L2.St) (H : Hp) (D : Ends) : Prop := ∃ a C dx fs, x = .ref a ∧ H a = some (.ins C dx fs) ∧ Cls K C ∧ NoAttr K C f ∧ fs.length < 1000 ∧ D.nx σ (upd H a (.ins C dx (putF f y fs)))
def MethR (C : Addr) (m : Str) (sp : Sp) (t : TA) (σ : L2.St) (Q : VK) (x : V) (H : Hp) : Prop := ∃ a dx fs, x = .ref a ∧ H a = some (.ins C dx fs) ∧ fs.lookup m = none ∧ t σ H fun vs H2 => sp (x :: (vs ++ [])) H2 Q E0
section
variable {K : PySem.W.Frag} {σ : L2.St} {H : Hp} {Q : VK} {D : Ends} {ta tv : TE} {t : TA} {f m : Str} {C a dx : Addr} {fs : List (Str × V)} {v x : V} {sp : Sp}
theorem z_fld (q : ta σ H fun x H1 => FldR K f x H1 Q) : tFld K ta f σ H Q := q
theorem z_fldR (h : H a = some (.ins C dx fs)) (c : Cls K C) (n : NoAttr K C f) (e : fs.lookup f = some v) (q : Q v H) : FldR K f (.ref a) H Q := ⟨a, C, dx, fs, v, rfl, h, c, n, e, q⟩
theorem z_sfld (q : tv σ H fun y H1 => ta σ H1 fun x H2 => FldW K f y x σ H2 D) : sFld K ta tv f D σ H := q
theorem z_fldW (h : H a = some (.ins C dx fs)) (c : Cls K C) (n : NoAttr K C f) (l : fs.length < 1000) (q : D.nx σ (upd H a (.ins C dx (putF f v fs)))) : FldW K f v (.ref a) σ H D := ⟨a, C, dx, fs, rfl, h, c, n, l, q⟩
theorem z_meth (q : ta σ H fun x H1 => MethR C m sp t σ Q x H1) : tMeth C m sp [] E0 ta t σ H Q := q
theorem z_methR (h : H a = some (.ins C dx fs)) (e : fs.lookup m = none) (q : t σ H fun vs H2 => sp (.ref a :: (vs ++ [])) H2 Q E0) : MethR C m sp t σ Q (.ref a) H := ⟨a, dx, fs, rfl, h, e, q⟩
theorem z_make (q : t σ H fun vs H1 => ∀ x dx, H1 x = none → H1 dx = none → dx ≠ x → sp (.ref x :: (vs ++ [])) (upd (upd H1 dx (.own x)) x (.ins C dx [])) (fun v H2 => v = .non ∧ Q (.ref x) H2) E0) : tMake C sp [] E0 t σ H Q := q
end
/-! ### more short steps -/
abbrev cTupOf (K : PySem.W.Frag) : List V → Hp → VK → Prop := fun xs H Q => ∃ p ys, xs = [.ref p] ∧ ((SqL K H p ys ∧ ∀ l, H l = none → Q (.ref l) (upd H l (.tup ys))) ∨ (SqT K H p ys ∧ Q (.ref p) H))
abbrev cListOf (K : PySem.W.Frag) : List V → Hp → VK → Prop := fun xs H Q => ∃ p ys, xs = [.ref p] ∧ (SqL K H p ys ∨ SqT K H p ys) ∧ ∀ l, H l = none → Q (.ref l) (upd H l (.lst ys))
theorem at_some {α : Type} {l : List α} {i : Int} (h0 : 0 ≤ i) (h : i < l.length) : ∃ c, atI l i = some c ∧ c ∈ l := by
  obtain ⟨j, rfl⟩ := Int.eq_ofNat_of_zero_le h0
  have hj : j < l.length := Int.ofNat_lt.mp h
  exact ⟨l[j], atI_nat (List.getElem?_eq_getElem hj), List.getElem_mem hj⟩
/-- xs != [], xs == [], of lists of any things that are data without truths -/
theorem z_neNil {K : PySem.W.Frag} {H : Hp} {Q : VK} {a c : Addr} {xs : List V} {ds : List PyData} (hx : SqL K H a xs) (hd : DpAll K H xs ds) (hc : SqL K H c []) (cl : clAll ds = true) (dd : PyData.depthAll ds + 1 ≤ 64) (q : Q (.bl (!xs.isEmpty)) H) : rNeD K (.ref a) (.ref c) H Q := by
  refine z_neD (b := xs.isEmpty) (.lst hx hd) (.lst hc .nil) cl rfl dd (by decide) ?_ q
  cases hd with
  | nil => exact ⟨fun _ => rfl, fun _ => rfl⟩
  | cons a r => exact ⟨fun h => (by cases h), fun h => (by cases h)⟩
section
variable {σ : L2.St} {H : Hp} {D : Ends} {ta : TA} {i j : Nat} {to ti : TE} {t : TSet} {v : V} {QS : L2.St → Hp → Prop}
theorem z_par (q : ta σ H fun vs H1 => ∃ v w, vs = [v, w] ∧ D.nx ((σ.set i (some v)).set j (some w)) H1) : tPar i j ta D σ H := q
theorem z_gsub (q : to σ H fun o H1 => ti σ H1 fun i H2 => t o i v H2 fun H3 => QS σ H3) : gSub to ti t v σ H QS := q
end
end Z

set_option Elab.async false
set_option linter.all false
set_option maxRecDepth 100000
set_option maxHeartbeats 4000000
/-! Zg: promises that hold where no repr is under way (A.guards = some []), and a law's end over such a promise. -/
namespace Z
open PySem PySem.Spec PyProof.Rows L2
/-- a def's promise where no repr is under way -/
structure FnG (P : Program) (w : World) (K : PySem.W.Frag) (mg : Str → Option Value) (base : Heap) (k : Nat) (f : Addr) (fd : FuncData) (xs : List Str) (sp : Sp) : Prop where
  many : ∀ vs H Q E, sp vs H Q E → vs.length = xs.length
  go : ∀ (B : Around) (st : List Env) (s : Shared) (H : Hp) (ar : Args) (us : List Value) (vs : List V) (Q : VK) (E : XK), B.guards = some [] → Room k B → Env0 P w K mg base B st s H → BindsTo s fd ar (xs.zip us) → Vals vs us → sp vs H Q E →
    codeAny (model P w) B (.call (.ref f) ar) (CR CX0 st P w H s Q E) s
theorem FnG.all {P : Program} {w : World} {K : PySem.W.Frag} {mg : Str → Option Value} {base : Heap} {k : Nat} {f : Addr} {fd : FuncData} {xs : List Str} {sp : Sp} (F : FnOk P w K mg base CX0 k f fd xs sp) : FnG P w K mg base k f fd xs sp :=
  ⟨F.len, fun B st s H ar us vs Q E _ hr e b v q => F.run B st s H ar us vs Q E hr e b v q⟩
section
variable {P : Program} {w : World} {K : PySem.W.Frag} {mg : Str → Option Value} {base : Heap} {x qual : Str} {params : Arguments} {body : List Stmt} {scope : Scope} {dvs : List V} {kws : List (Str × V)} {f : Addr} {fd : FuncData}
theorem FnG.of {N xs : List Str} {k : Nat} {sp : Sp} (F : FunD K x qual params body scope dvs kws f fd) (S : FnScope N xs scope) (many : ∀ vs H Q E, sp vs H Q E → vs.length = xs.length)
    (hb : ∀ (cv : Value) (B : Around) (st : List Env) (s : Shared) (H : Hp) (vs : List V) (Q : VK) (E : XK), B.guards = some [] → Room k (B.deeper (envOfC qual scope s.heap.objs.size f cv)) → sp vs H Q E →
      ∃ t, PSs (cxOf CX0 P w K mg base N qual scope f cv B st s H E) body t ∧ t { nx := fun _ H' => Q .non H', rt := Q } (start N vs) H) : FnG P w K mg base (k + 1) f fd xs sp := by
  obtain ⟨oc, od, dV, kV, doc, pm, an, cv, ct, sl, rfl, lk, hcd, _, _⟩ := F.ex
  constructor
  · exact many
  intro B st s H ar us vs Q E hg room env0 binds rel q0
  have inHeap : K.In s.heap := env0.mod.kin.keeps fun b o z => (env0.bs b o z).1
  have free : s.heap.NoLimit := env0.mod.nolimit.keeps fun b o z => (env0.bs b o z).1
  have lenV := many _ _ _ _ q0
  have kinds : ∀ y ∈ xs.zip us, scope.names.lookup y.1 = some .local ∨ (scope.names.lookup y.1 = some .cell ∧ ((cellsFrom (s.heap.objs.size + 1) scope.names []).lookup y.1).isSome = true) := by
    rintro ⟨n, v⟩ hy
    rcases S.par n (List.of_mem_zip hy).1 with z | z
    · exact Or.inl z
    · exact Or.inr ⟨z, PySem.W.cellsFrom_some _ _ _ (Or.inl z)⟩
  refine codeAny_call_function room.depth (inHeap _ _ lk) rfl S.co S.gen rfl (PySem.W.codeRec_of inHeap hcd) (binds _ _ _ _ ?_)
  refine wpAny_newFunctionEnv_cells S.kind kinds fun env hv s1 y => ?_
  cases hv
  refine ⟨free.keeps y.toInCall.keep, codeAny_func ?_⟩
  obtain ⟨t, ht, q1⟩ := hb cv B st s H vs Q E hg (room.deeper _) q0
  have inv0 : Inv (cxOf CX0 P w K mg base N qual scope f cv B st s H E) [] (start N vs) H s1 := inv_start S room.hd env0 lenV rel y
  have ending : ∀ {σ' : L2.St} {H' : Hp} {s' : Shared} {v : V} {u : Value}, Inv (cxOf CX0 P w K mg base N qual scope f cv B st s H E) [] σ' H' s' → RelV v u → Q v H' → CE st P w H s Q u s' :=
    fun {_ H' _ v _} J r z => ⟨v, H', J.os, J.bare, J.base, J.hok, r, z⟩
  refine wpAny_mono (ht.run [] s1 (start N vs) H _ inv0 q1) ?_ fun _ _ z => z
  intro fl s' z
  match fl, z with
  | .ret u, ⟨v, σ', H', J, r, z⟩ => exact ending J r z
  | .next, ⟨σ', H', J, z⟩ => exact ending (v := V.non) (u := Value.none) J rfl z
  | .brk, ⟨_, _, _, z⟩ => exact z.elim
  | .cont, ⟨_, _, _, z⟩ => exact z.elim
end
section
variable {P : Program} {w : World} {K : PySem.W.Frag} {mg mb : Str → Option Value} {k : Nat} {fa a : Addr} {fd : FuncData} {x : Str} {sp : Sp} {s₁ : Shared} {vs : List Value} {ns : List Int}
theorem hid_ns {H : Hp} (only : ∀ b, H b ≠ none → b = a) (list : s₁.heap.get? a = some { cls := .type "list", data := .seq vs.toArray }) {b : Addr} {m : Str → Option Value} (h : s₁.heap.Ns b m) : (hidT s₁.heap H).Ns b m := by
  obtain ⟨o, es, ep, e, d, r⟩ := h
  refine ⟨o, es, ep, hidT_get e ?_, d, r⟩
  cases z : H b with
  | none => rfl
  | some u =>
    obtain rfl : b = a := only b (by rw [z]; exact Option.some_ne_none u)
    rw [list] at e
    obtain rfl := Option.some.inj e
    exact Data.noConfusion d
theorem law_G1 (inHeap : K.In s₁.heap) (globals : s₁.heap.Ns mainGlobals mg) (names : s₁.heap.Ns builtinsNs mb) (boots : ∀ x : Str, x ≠ "__name__" → mb x = bootBuiltins x) (free : s₁.heap.NoLimit) (still : s₁.gens = #[])
    (list : s₁.heap.get? a = some { cls := .type "list", data := .seq vs.toArray }) (room : Room k callerA)
    (F : ∀ base : Heap, K.In base → base.Ns mainGlobals mg → FnG P w K mg base k fa fd [x] sp) (binds : ∀ (s : Shared) (u : Value), BindsTo s fd ⟨[u], []⟩ [(x, u)])
    {H : Hp} (hO : Only H) (hs : sp [.ref a] H (fun v _ => v = .bl true) fun _ _ _ => False) (hok : HOk P w H s₁.heap) (only : ∀ b, H b ≠ none → b = a) (apart : H a ≠ none → K.lookup a = none) :
    codeAny (model P w) callerA (.call (.ref fa) ⟨[.ref a], []⟩) (fun r s' => r = .ok (.ret (.bool true)) ∧ OldK s₁.heap s'.heap ∧ s'.os = s₁.os ∧ AllBare s'.gens) s₁ := by
  have kIn : K.In (hidT s₁.heap H) := by
    intro b o e
    refine hidT_get (inHeap b o e) ?_
    cases z : H b with
    | none => rfl
    | some u =>
      obtain rfl : b = a := only b (by rw [z]; exact Option.some_ne_none u)
      rw [apart (by rw [z]; exact Option.some_ne_none u)] at e
      cases e
  have nolim : (hidT s₁.heap H).NoLimit := by
    obtain ⟨mc, z1, z2⟩ := free
    exact ⟨mc, hid_ns only list z1, z2⟩
  have g2 := hid_ns only list globals
  have env0 : Env0 P w K mg (hidT s₁.heap H) callerA [] s₁ H :=
    { frames := rfl, mod := ⟨kIn, g2, ⟨mb, hid_ns only list names, boots⟩, nolim⟩, bs := fun b o e => of_hidT e, bsz := Nat.le_of_eq (hidT_size _ _), funs := trivial, frf := fun b z => absurd (show b ∈ ([] : List Addr) from z) List.not_mem_nil, hok := hok, bare := .of_eq still }
  have run := (F _ kIn g2).go callerA [] s₁ H ⟨[.ref a], []⟩ [.ref a] [.ref a] _ _ rfl room env0 (binds s₁ (.ref a)) (.cons rfl .nil) hs
  refine codeAny_mono run ?_
  intro r s' z
  match r, z with
  | .error e, z => exact False.elim z
  | .ok .next, z => exact False.elim z
  | .ok .brk, z => exact False.elim z
  | .ok .cont, z => exact False.elim z
  | .ok (.ret u), ⟨v, H', os, bare, un, hok2, rel, z⟩ =>
    have zv : v = .bl true := z
    subst zv
    have zu : u = Value.bool true := rel
    subst zu
    refine ⟨rfl, OldK.of_keep ?_, os, bare⟩
    intro b o e
    rcases hO b with n | ⟨ob, ys, n⟩
    · exact un.keep b o e n (fun y => absurd (show b ∈ ([] : List Addr) from y) List.not_mem_nil) (by simp)
    · have n2 := un.frzs b ob _ n
      have o1 := (hok b _ n).1
      have o2 := (hok2 b _ n2).1
      rw [e] at o1
      cases o1
      exact o2
theorem law_G (inHeap : K.In s₁.heap) (globals : s₁.heap.Ns mainGlobals mg) (names : s₁.heap.Ns builtinsNs mb) (boots : ∀ x : Str, x ≠ "__name__" → mb x = bootBuiltins x) (free : s₁.heap.NoLimit) (still : s₁.gens = #[])
    (list : s₁.heap.get? a = some { cls := .type "list", data := .seq vs.toArray }) (nums : IntsAre vs ns) (few : ns.length ≤ sizeLine) (room : Room k callerA)
    (F : ∀ base : Heap, K.In base → base.Ns mainGlobals mg → FnG P w K mg base k fa fd [x] sp) (binds : ∀ (s : Shared) (u : Value), BindsTo s fd ⟨[u], []⟩ [(x, u)])
    (promised : ∀ H : Hp, Only H → SqL K H a (ns.map V.int) → sp [.ref a] H (fun v _ => v = .bl true) fun _ _ _ => False) :
    codeAny (model P w) callerA (.call (.ref fa) ⟨[.ref a], []⟩) (fun r s' => r = .ok (.ret (.bool true)) ∧ OldK s₁.heap s'.heap ∧ s'.os = s₁.os ∧ AllBare s'.gens) s₁ := by
  have rel := vals_ints nums
  have size := nums.length
  by_cases lk : K.lookup a = none
  · obtain ⟨H, hH⟩ : ∃ H : Hp, ∀ b, H b = if b = a then some (.frz { cls := .type "list", data := .seq vs.toArray } (.lst (ns.map V.int))) else none := ⟨_, fun _ => rfl⟩
    have at_a : H a = some (.frz { cls := .type "list", data := .seq vs.toArray } (.lst (ns.map V.int))) := (hH a).trans (if_pos rfl)
    have off : ∀ b, b ≠ a → H b = none := fun b h => (hH b).trans (if_neg h)
    have only : ∀ b, H b ≠ none → b = a := fun b h => Classical.byContradiction fun z => h (off b z)
    have hO : Only H := fun b => by
      by_cases z : b = a
      · exact .inr ⟨_, _, by rw [z]; exact at_a⟩
      · exact .inl (off b z)
    refine law_G1 inHeap globals names boots free still list room F binds hO (promised H hO (.inl (.inr ⟨_, at_a⟩))) ?_ only fun _ => lk
    intro b u h
    obtain rfl : b = a := only b (by rw [h]; exact Option.some_ne_none u)
    rw [at_a] at h
    obtain rfl := Option.some.inj h
    exact ⟨list, by rw [List.length_map]; exact few, vs, _, rel, list⟩
  · obtain ⟨o, lk2⟩ : ∃ o, K.lookup a = some o := by
      cases z : K.lookup a with
      | none => exact absurd z lk
      | some o => exact ⟨o, rfl⟩
    have own := inHeap a o lk2
    rw [list] at own
    cases own
    have hO : Only fun _ => none := fun _ => .inl rfl
    refine law_G1 inHeap globals names boots free still list room F binds hO (promised _ hO (.inr ⟨_, vs.toArray, _, lk2, rfl, rfl, rfl, ?_, ?_⟩)) ?_ (fun _ z => absurd rfl z) fun z => absurd rfl z
    · rw [List.size_toArray, size]
      exact few
    · simpa using rel
    · intro b u h
      cases h
end
/-- a law's end, as walk_ofE, over such a promise -/
theorem walk_G {l : PySem.W.OpenLaw} {n k : Nat} {q : Program} {loose : List Str} {XP : (Str → Option Value) → Heap → Prop} {YP : World → Heap → Prop} {d : DefRec} {x : Str}
    (most : l.most = some n) (line : n ≤ sizeLine) (plain : d.params.defaults = []) (room : Room k callerA)
    (F : ∀ (w : World) (mg : Str → Option Value) (fa : Addr) (h : Heap), YP w h → h.Ns mainGlobals mg → mg d.name = some (.ref fa) →
      ∃ (K : PySem.W.Frag) (fd : FuncData) (sp : Sp), K.In h ∧ (∀ (s : Shared) (u : Value), BindsTo s fd ⟨[u], []⟩ [(x, u)]) ∧
        (∀ (H : Hp) (a : Addr) (ns : List Int), ns.length ≤ n → Only H → SqL K H a (ns.map V.int) → sp [.ref a] H (fun v _ => v = .bl true) fun _ _ _ => False) ∧
        ∀ base : Heap, K.In base → base.Ns mainGlobals mg → FnG l.prog w K mg base k fa fd [x] sp) :
    PySem.W.WalkO q loose XP YP l.row.toRowW d [] (fun f vs => PySem.call f vs) := by
  apply Att.attach_call most plain
  intro w s₀ s₁ mg mb fa o pm cd doc a vs ns ground y hof hdat hcode hname hlist hints hmany hstill
  obtain ⟨K, fd, sp, inHeap, binds, promised, hF⟩ := F w mg fa _ y ground.T.g hname
  exact law_G inHeap ground.T.g ground.T.b ground.T.builtins ground.T.nolimit hstill hlist hints (Nat.le_trans hmany line) room hF binds fun H hO hS => promised H a ns hmany hO hS
end Z

set_option Elab.async false
set_option linter.all false
set_option maxRecDepth 100000
set_option maxHeartbeats 4000000
/-! Zg2: repr of data and of a dict of such, where no repr is under way. -/
namespace Z
open PySem PySem.Spec PyProof.Rows L2
def keyD : Key → PyData
  | .inl i => .int i
  | .inr x => .str x
theorem key_reads {P : Program} {w : World} {h : Heap} {k : Key} {v : Value} (e : (mixKind P w).is k v = true) : Reads h v (keyD k) [] := by
  rcases keyIs_shape e with ⟨i, t, rfl, rfl⟩ | ⟨x, t, rfl, rfl⟩
  · exact .int i t
  · exact .str x t
theorem pairs_reads {P : Program} {w : World} {h : Heap} : ∀ {es : List DictEntry} {kvs : List (Key × Value)}, Pairs (mixKind P w) es kvs → ReadsAll h (es.map (·.key)) (kvs.map fun p => keyD p.1) [] ∧ es.map (·.val) = kvs.map (·.2)
  | _, _, .nil => ⟨.nil, rfl⟩
  | _, _, .cons e v r => by
    obtain ⟨z1, z2⟩ := pairs_reads (h := h) r
    refine ⟨ReadsAll.cons (as := []) (bs := []) (key_reads e) z1, ?_⟩
    rw [List.map_cons, List.map_cons, z2, v]
theorem kv_parts : ∀ {kvs : List (Key × V)} {vs : List (Key × Value)}, KV kvs vs → vs.map (·.1) = kvs.map (·.1) ∧ Vals (kvs.map (·.2)) (vs.map (·.2))
  | _, _, .nil => ⟨rfl, .nil⟩
  | _, _, .cons e r => by
    obtain ⟨z1, z2⟩ := kv_parts r
    exact ⟨by rw [List.map_cons, List.map_cons, z1, e.1], .cons e.2 z2⟩
/-- the data of a dict -/
def dictD (kvs : List (Key × V)) (ds : List PyData) : PyData := .dict ((kvs.map fun p => keyD p.1).zip ds)
/-- repr of a dict with values that are data without dicts -/
def rReprK (K : PySem.W.Frag) : List V → Hp → VK → Prop := fun xs H Q => ∃ (a : Addr) (kvs : List (Key × V)) (ds : List PyData), xs = [.ref a] ∧ Rd H a (.dK kvs) ∧ DpAll K H (kvs.map (·.2)) ds ∧ (dictD kvs ds).showable = true ∧ PyData.hasDictAll ds = false ∧ (dictD kvs ds).depth ≤ 50 ∧ (dictD kvs ds).shown.length ≤ sizeLine ∧ Q (.str (dictD kvs ds).shown) H
theorem call_reprK {X : Cx} (quiet : X.A.guards = some []) (hu : X.A.units + 64 < cLine) : CallR X (.builtin "repr") (rReprK X.K) := by
  intro pins s σ H xs us Q I r h
  obtain ⟨a, kvs, ds, rfl, hR, hD, sh, nd, dp, sz, q⟩ := h
  obtain ⟨u, rfl, ru⟩ := vals1 r
  cases ru
  obtain ⟨_, hsys, vs, hkv, o, es, ep, ho, ex, hd, _, pr, _⟩ := dk_rd I.hok hR
  obtain ⟨ek, vv⟩ := kv_parts hkv
  obtain ⟨rk, ev⟩ := pairs_reads (h := s.heap) pr
  rw [← ev] at vv
  obtain ⟨bs, rv⟩ := Dp.readsAll I ds _ _ hD vv
  have eks : (vs.map fun p => keyD p.1) = kvs.map fun p => keyD p.1 := by
    have := congrArg (List.map keyD) ek
    rwa [List.map_map, List.map_map] at this
  rw [eks] at rk
  have ll : (kvs.map fun p => keyD p.1).length = ds.length := by
    rw [← dpAll_len hD, List.length_map, List.length_map]
  have z1 : ((kvs.map fun p => keyD p.1).zip ds).map (·.1) = kvs.map fun p => keyD p.1 := List.map_fst_zip (by omega)
  have z2 : ((kvs.map fun p => keyD p.1).zip ds).map (·.2) = ds := List.map_snd_zip (by omega)
  unfold dictD at sh dp sz q
  generalize (kvs.map fun p => keyD p.1).zip ds = dd at *
  rw [← z1] at rk
  rw [← z2] at rv nd
  have szD : (dictText (PyData.shownKv dd)).length ≤ sizeLine := by simpa only [PyData.shown] using sz
  have dpD : PyData.depthKv dd + 1 ≤ 50 := by simpa only [PyData.depth] using dp
  obtain ⟨sk, sv⟩ := PyData.showableKv_split dd (by simpa only [PyData.showable] using sh)
  obtain ⟨c1, m1, k1⟩ := ReprAllK.of_readsAll (prog := X.prog) (w := X.w) rk sk (fun _ z => by cases z) fun t ht => by
    obtain ⟨y, hy, l⟩ := PyData.shownKv_key_le dd t ht
    exact Nat.le_trans l (Nat.le_trans (dictText_mem_le hy) szD)
  obtain ⟨c2, m2, k2⟩ := ReprAllK.of_readsAll (prog := X.prog) (w := X.w) rv sv (fun z => by rw [nd] at z; cases z) fun t ht => by
    obtain ⟨y, hy, l⟩ := PyData.shownKv_val_le dd t ht
    exact Nat.le_trans l (Nat.le_trans (dictText_mem_le hy) szD)
  have d1 := PyData.depthAll_keys_le dd
  have d2 := PyData.depthAll_vals_le dd
  have apart : a ∉ c1 ++ c2 := not_mem_of_deeper (.dict ho ex.1 hd rk rv) (show PyData.depthKv dd < _ by simp only [PyData.depth]; omega) ((m1.mono d1).append (m2.mono d2))
  refine call_repr_slot (by omega) ⟨o, ho, ex.1⟩ F.slot_dict_repr ?_
  have entries := ReprEntriesK.of_two es.toList _ _ (k1.more_le (fun b z => List.mem_append_left c2 z) d1) (k2.more_le (fun b z => List.mem_append_right c1 z) d2)
  rw [← PyData.shownKv_eq] at entries
  refine call_dict_reprK ho ex.1 hd hsys apart entries (A := X.A.in1) quiet (fun b _ => Clear.nil b) (by show X.A.units + 1 + _ < cLine; omega) (fun _ _ z => z) (fun h' u tk kept => ⟨_, _, rfl, ?_⟩) szD
  refine ⟨.str _, H, I.kept kept, ⟨_, rfl⟩, ?_⟩
  simpa only [PyData.shown] using q
/-- repr of data without dicts -/
def rReprD (K : PySem.W.Frag) : List V → Hp → VK → Prop := fun xs H Q => ∃ (a : Addr) (d : PyData), xs = [.ref a] ∧ Dp K H (.ref a) d ∧ d.showable = true ∧ d.hasDict = false ∧ d.depth ≤ 50 ∧ d.shown.length ≤ sizeLine ∧ Q (.str d.shown) H
theorem call_reprD {X : Cx} (quiet : X.A.guards = some []) (hu : X.A.units + 64 < cLine) : CallR X (.builtin "repr") (rReprD X.K) := by
  intro pins s σ H xs us Q I r h
  obtain ⟨a, d, rfl, hD, sh, nd, dp, sz, q⟩ := h
  obtain ⟨u, rfl, ru⟩ := vals1 r
  cases ru
  obtain ⟨as, rd⟩ := Dp.reads I d _ _ hD (show RelV (.ref a) (.ref a) from rfl)
  refine repr_of_reads' rd sh (fun z => by rw [nd] at z; cases z) quiet (by omega) (fun _ _ z => z) (fun h' u tk kept => ?_) sz
  exact ⟨.str _, H, I.kept kept, ⟨_, rfl⟩, q⟩
theorem deep_quiet {B : Around} {env : Env} (h : B.guards = some []) : (B.deeper env).guards = some [] := h
/-! ### defs of the module that are promised so -/
structure CalG (P : Program) (w : World) (K : PySem.W.Frag) (mg : Str → Option Value) (base : Heap) (k : Nat) (x : Str) (sp : Sp) : Prop where
  is : ∃ (f : Addr) (fd : FuncData) (xs : List Str), FnG P w K mg base k f fd xs sp ∧ mg x = some (.ref f) ∧ PySem.W.keepIn K (.ref f) = true ∧ Binds K fd xs []
section
variable {X : Cx} {k j : Nat} {x : Str} {sp : Sp} {p pos : Pos} {e : Expr} {es : List Expr} {t : TA}
theorem run_G {f : Addr} {fd : FuncData} {xs : List Str} {pins : List (Addr × Obj)} {σ : L2.St} {H : Hp} {s : Shared} {Q : VK} {us : List Value} {vs : List V} (F : FnG X.prog X.w X.K X.mg X.base k f fd xs sp) (quiet : X.A.guards = some []) (room : Room k X.A) (b : Binds X.K fd xs [])
    (I : Inv X pins σ H s) (r : Vals vs us) (h : sp (vs ++ []) H Q E0) : wpAny (model X.prog X.w) X.A (call (.ref f) us) (EP X pins σ Q) X.xe s := by
  have r2 : Vals (vs ++ []) (us ++ []) := r.append .nil
  have many : (us ++ []).length = xs.length := by
    rw [← r2.length]
    exact F.many _ _ _ _ h
  have run := F.go X.A X.stack s H ⟨us, []⟩ (us ++ []) (vs ++ []) Q E0 quiet room I.env0 (b s us I.kIn many) r2 h
  refine wpAny_call (codeAny_mono run fun r s' z => ?_)
  match r, z with
  | .error e, z => exact pass0 pins σ H s e s' I z
  | .ok (.ret u), z => exact I.after z
  | .ok .next, z => exact z.elim
  | .ok .brk, z => exact z.elim
  | .ok .cont, z => exact z.elim
theorem pe_cG (c : CalG X.prog X.w X.K X.mg X.base k x sp) (quiet : X.A.guards = some []) (room : Room j X.A) (hk : k ≤ j) (hg : Gl X x) (ha : PA X (e :: es) t)
    (hdb : (x == ("__debug__" : Str)) = false := by decide) (he : starEach (e :: es) X.env = (false, eval e X.env) :: starEach es X.env := by rfl) (hpl : (backTo pos (starEach es X.env)).any (·.1) = false := by rfl) :
    PE X (.Call (.Name x p) (e :: es) [] pos) (tCall sp [] E0 t) := by
  obtain ⟨f, fd, xs, F, at_, keep, b⟩ := c.is
  constructor
  intro pins s σ H Q I h
  refine wpAny_Call_Name_kw (ld_glob I hg at_ (PySem.W.callWith_K (h₀ := X.base) I.ok.mod.kin keep ?_ he hpl) hdb)
  refine thn (ha.run pos pins s σ H _ I h) ?_
  rintro us s1 ⟨vs, H1, I1, r, q⟩
  exact ⟨I1.kIn, run_G F quiet (room.mono hk) b I1 r q⟩
end
section
variable {P : Program} {w : World} {K : PySem.W.Frag} {mg : Str → Option Value} {base : Heap}
theorem calG_mk {x : Str} {st : Stmt} {N xs : List Str} {k : Nat} {sp : Sp} {t : TS} (D : DX K mg x st) (S : FnScope N xs (defScope st))
    (hb : ∀ (kV doc pm : Value) (an : Option Addr) (cv ct : Value) (us : List Value), us.length = xs.length → bindArgs (PySem.W.fnOf x x (defArgs st) (defBody st) (defScope st) .none kV doc pm an cv ct) ⟨us, []⟩ = pure (xs.zip us))
    (many : ∀ vs H Q E, sp vs H Q E → vs.length = xs.length)
    (hd : ∀ (f : Addr) (cv : Value) (B : Around) (st' : List Env) (s : Shared) (H : Hp) (E : XK), B.guards = some [] → Room k (B.deeper (envOfC x (defScope st) s.heap.objs.size f cv)) → PSs (cxOf CX0 P w K mg base N x (defScope st) f cv B st' s H E).nox (defBody st) t)
    (hv : ∀ vs H Q E, sp vs H Q E → t { nx := fun _ H' => Q .non H', rt := Q } (start N vs) H) : CalG P w K mg base (k + 1) x sp := by
  obtain ⟨f, fd, F, at_⟩ := D
  exact ⟨f, fd, xs, FnG.of F S many fun cv B st' s H vs Q E quiet room h => ⟨t, PSs.nox (hd f cv B st' s H E quiet room), hv vs H Q E h⟩, at_, F.kp, F.bindsN hb⟩
end
end Z

set_option Elab.async false
set_option linter.all false
set_option maxRecDepth 100000
set_option maxHeartbeats 4000000
/-! Zd: dicts: update, a dict held beside an empty one; short steps. -/
namespace Z
open PySem PySem.Spec PyProof.Rows L2
/-- d.update(e) -/
def rDUpd : V → List V → Hp → VK → Prop := fun x vs H Q => ∃ (a c : Addr) (kvs more : List (Key × V)), x = .ref a ∧ vs = [.ref c] ∧ H a = some (.dK kvs) ∧ Rd H c (.dK more) ∧ a ≠ c ∧ kvs.length + more.length ≤ sizeLine ∧ Q .non (upd H a (.dK (mergeK kvs more)))
theorem mt_dupd {X : Cx} : MtR X "dict.update" rDUpd := by
  intro pins s σ H x vs v us Q I rx rv h
  obtain ⟨a, c, kvs, more, rfl, rfl, ea, ec, ne, sz, q⟩ := h
  cases rx
  obtain ⟨u, rfl, ru⟩ := vals1 rv
  cases ru
  obtain ⟨_, na, va, ra, da⟩ := dk_of I.hok ea
  obtain ⟨_, nc, vc, rc, dc⟩ := dk_rd I.hok ec
  have k1 : va.length + vc.length ≤ sizeLine := by rw [← ra.length, ← rc.length]; exact sz
  refine call_meetsIn PySem.F.slot_dict_update da.typeIs PySem.F.entry_dict_update (PySem.F.args_dict_update_2 _ _) (meets_dict_update (mixKind X.prog X.w) a c ne nc) ⟨va, vc, da, dc, k1, fun h' dm _ sb => ?_⟩
  have at_ : ∃ ob, h'.get? a = some ob := by
    obtain ⟨ob, _, _, g, _⟩ := dm
    exact ⟨ob, g⟩
  have ok : (mergeK kvs more).length ≤ sizeLine := Nat.le_trans (length_mergeK more kvs) sz
  have new : ObjOk X.prog X.w (upd H a (.dK (mergeK kvs more))) h' a (.dK (mergeK kvs more)) := dk_new ok na (rc.merge ra) dm
  exact ⟨.non, _, d_write (t' := s.toks) I (by rw [ea]; exact True.intro) sb at_ new, rfl, q⟩
/-- d != {}, d == {}: c is an empty dict -/
def rNeD0 : R2 := fun x y H Q => ∃ (a c : Addr) (kvs : List (Key × V)), x = .ref a ∧ y = .ref c ∧ H a = some (.dK kvs) ∧ H c = some (.dK []) ∧ Q (.bl (!kvs.isEmpty)) H
theorem op_neD0 {X : Cx} (hu : X.A.units < cLine) : OpR X (compareOp .NotEq) rNeD0 := by
  intro pins s σ H x y v u Q I rx ry h
  obtain ⟨a, c, kvs, rfl, rfl, ea, ec, q⟩ := h
  cases rx
  cases ry
  obtain ⟨_, na, va, ra, da⟩ := dk_of I.hok ea
  obtain ⟨_, nc, vc, rc, dc⟩ := dk_of I.hok ec
  have l0 : vc.length = 0 := rc.length.symm
  have la : kvs.length = va.length := ra.length
  refine PySem.W.keq_ne (knd := mixKind X.prog X.w) (r := true) na nc da dc hu (fun e => ?_) ?_
  · have : va = [] := List.length_eq_zero_iff.mp (e.trans l0)
    subst this
    exact .nil
  · refine ⟨.bl (!kvs.isEmpty), H, I, ?_, q⟩
    rw [Bool.and_true, l0]
    show _ = _
    cases kvs with
    | nil =>
      rw [show va.length = 0 from la.symm]
      rfl
    | cons p r =>
      rw [← la]
      rfl
abbrev cListD : List V → Hp → VK → Prop := fun xs H Q => ∃ (a : Addr) (kvs : List (Key × V)), xs = [.ref a] ∧ Rd H a (.dK kvs) ∧ ∀ p, H p = none → Q (.ref p) (upd H p (.lst (kvs.map fun kv => kV kv.1)))
abbrev cDictD : List V → Hp → VK → Prop := fun xs H Q => ∃ (a : Addr) (kvs : List (Key × V)), xs = [.ref a] ∧ Rd H a (.dK kvs) ∧ ∀ p, H p = none → Q (.ref p) (upd H p (.dK kvs))
abbrev cDictP (K : PySem.W.Frag) : List V → Hp → VK → Prop := fun xs H Q => ∃ (a : Addr) (ps : List Addr) (kvs : List (Key × V)), xs = [.ref a] ∧ SqL K H a (ps.map V.ref) ∧ Paired (fun p kv => SqT K H p [kV kv.1, kv.2]) ps kvs ∧ ∀ p, H p = none → Q (.ref p) (upd H p (.dK (mergeK [] kvs)))
section
variable {σ : L2.St} {H : Hp} {Q : VK} {D : Ends} {td ty tx tv : TE} {ts : TS} {te : TE} {trs : List (TE × TE)}
theorem z_dget (q : td σ H fun x H1 => ty σ H1 fun y H2 => ∃ a v, x = .ref a ∧ DGet H2 a y (some v) ∧ Q v H2) : tDGet td ty σ H Q := q
theorem z_dget1 (q : td σ H fun x H1 => ∃ a, x = .ref a ∧ IsD H1 a ∧ ty σ H1 fun y H2 => ∃ o, DGet H2 a y o ∧ Q (o.getD .non) H2) : tDGet1 td ty σ H Q := q
theorem z_dget2 (q : td σ H fun x H1 => ∃ a, x = .ref a ∧ IsD H1 a ∧ ty σ H1 fun y H2 => tx σ H2 fun z H3 => ∃ o, DGet H3 a y o ∧ Q (o.getD z) H3) : tDGet2 td ty tx σ H Q := q
theorem z_din (q : ty σ H fun y H1 => td σ H1 fun x H2 => ∃ a o, x = .ref a ∧ DGet H2 a y o ∧ Q (.bl o.isSome) H2) : tDIn ty td σ H Q := q
theorem z_dnotin (q : ty σ H fun y H1 => td σ H1 fun x H2 => ∃ a o, x = .ref a ∧ DGet H2 a y o ∧ Q (.bl (!o.isSome)) H2) : tDNotIn ty td σ H Q := q
theorem z_dput (q : tv σ H fun v H1 => td σ H1 fun x H2 => ty σ H2 fun y H3 => ∃ a H4, x = .ref a ∧ DPut H3 a y v H4 ∧ D.nx σ H4) : sDPut td ty tv D σ H := q
theorem z_dpop1 (q : td σ H fun x H1 => ∃ a, x = .ref a ∧ IsD H1 a ∧ ty σ H1 fun y H2 => ∃ kvs k v, H2 a = some (.dK kvs) ∧ y = kV k ∧ valV kvs k = some v ∧ Q v (upd H2 a (.dK (dropK kvs k)))) : tDPop1 td ty σ H Q := q
theorem z_disp (q : ∀ p, H p = none → tPairs trs σ (upd H p (.dK [])) fun ps H2 => H2 p = some (.dK []) ∧ ∃ kvs : List (Key × V), ps = kvs.map (fun kv => (kV kv.1, kv.2)) ∧ kvs.length ≤ 15 ∧ Q (.ref p) (upd H2 p (.dK (mergeK [] kvs)))) : tDisp trs σ H Q := q
theorem z_pairs0 {R : List (V × V) → Hp → Prop} (q : R [] H) : tPairs [] σ H R := q
theorem z_pairs {R : List (V × V) → Hp → Prop} {tk tw : TE} (q : tk σ H fun x H1 => tw σ H1 fun y H2 => tPairs trs σ H2 fun ps H3 => R ((x, y) :: ps) H3) : tPairs ((tk, tw) :: trs) σ H R := q
theorem z_lock {d : Addr} {u : HO} (h : H d = some u) (mu : Mut (some u)) (q : ∀ od, ts ⟨fun σ' H' => H' d = some (.frz od u) ∧ D.nx σ' (upd H' d u), fun v H' => H' d = some (.frz od u) ∧ D.rt v (upd H' d u), fun σ' H' => H' d = some (.frz od u) ∧ D.bk σ' (upd H' d u), fun σ' H' => H' d = some (.frz od u) ∧ D.ct σ' (upd H' d u)⟩ σ (upd H d (.frz od u))) : tLock ts D σ H := ⟨d, u, h, mu, q⟩
theorem z_lockE {d : Addr} {u : HO} (h : H d = some u) (mu : Mut (some u)) (q : ∀ od, te σ (upd H d (.frz od u)) fun v H' => H' d = some (.frz od u) ∧ Q v (upd H' d u)) : tLockE te σ H Q := ⟨d, u, h, mu, q⟩
end
end Z

set_option Elab.async false
set_option linter.all false
set_option maxRecDepth 100000
set_option maxHeartbeats 4000000
/-! Zt: texts with signs that texts may have; joins of single signs; lists of texts as data. -/
namespace Z
open PySem PySem.Spec PyProof.Rows L2
open Evl (Ex ex_l ex_t ex_rd sq_of st_of fresh_back RetL RetV)
/-- signs that a text may have -/
def okS (l : List Nat) : Prop := ∀ c ∈ l, c < 1114112
/-! ### texts with signs that texts may have -/
def okT (z : Str) (n : Nat) : Prop := z.length ≤ n ∧ okS z.cps.toList
theorem okT.mono {z : Str} {m n : Nat} (h : okT z m) (e : m ≤ n) : okT z n := ⟨Nat.le_trans h.1 e, h.2⟩
theorem okS_of (s : String) : okS (Str.ofString s).cps.toList := by
  rw [Str.ofString_eq_toList]
  intro c hc
  have hc' : c ∈ s.toList.map Char.toNat := by simpa using hc
  obtain ⟨ch, _, rfl⟩ := List.mem_map.mp hc'
  have := ch.valid
  show ch.val.toNat < 1114112
  rcases this with h | ⟨_, h⟩
  · exact Nat.lt_trans h (by decide)
  · exact h
theorem okT.of (s : String) {n : Nat} (h : (Str.ofString s).length ≤ n) : okT (Str.ofString s) n := ⟨h, okS_of s⟩
theorem tl_app (a b : Str) : (a ++ b).cps.toList = a.cps.toList ++ b.cps.toList := by
  show (a.cps ++ b.cps).toList = _
  simp
theorem okT.app {a b : Str} {m n : Nat} (h : okT a m) (k : okT b n) : okT (a ++ b) (m + n) := by
  refine ⟨by rw [txt_app_len]; exact Nat.add_le_add h.1 k.1, fun c hc => ?_⟩
  rw [tl_app] at hc
  exact (List.mem_append.mp hc).elim (h.2 c) (k.2 c)
theorem okT.cut {a : Str} {m : Nat} (lo hi : Option Int) (h : okT a m) : okT (cutS a lo hi) m := by
  refine ⟨Nat.le_trans (cutS_le _ _ _) h.1, ?_⟩
  rw [S_of a, S_cut, S_tl]
  exact fun c hc => h.2 c (List.mem_of_mem_drop (List.mem_of_mem_take hc))
theorem okT.one {a : Str} {m c : Nat} (h : okT a m) (hc : c ∈ a.cps.toList) : okT ⟨#[c]⟩ 1 := by
  refine ⟨Nat.le_refl _, fun d hd => ?_⟩
  have : d = c := by simpa using hd
  rw [this]
  exact h.2 c hc
theorem okT.S {l : List Nat} {n : Nat} (h : l.length ≤ n) (k : okS l) : okT (Z.S l) n := by
  refine ⟨by rw [S_len]; exact h, ?_⟩
  rw [S_tl]
  exact k
theorem okT.sz {z : Str} {n : Nat} (h : okT z n) (hn : n ≤ 1000) : z.length ≤ sizeLine := szl (Nat.le_trans h.1 hn)
theorem okT.ret {z : Str} {n : Nat} {H : Hp} {Q : VK} (h : okT z n) (q : ∀ l : List Nat, l.length ≤ n → okS l → RetV (.str (Z.S l)) H Q) : RetV (.str z) H Q := by
  rw [S_of z]
  exact q _ h.1 h.2
theorem okS_sub {l m : List Nat} (h : okS l) (k : ∀ c ∈ m, c ∈ l) : okS m := fun c hc => h c (k c hc)

theorem one_eq (n : Nat) : (⟨#[n]⟩ : Str) = S [n] := rfl
theorem empty_str : (Str.ofString "" : Str) = S [] := by decide +kernel
theorem given_all (n : Nat) (v : Nat → V) : Evl.given n (fun _ => true) v = (List.range n).map v := by
  unfold Evl.given
  rw [List.filter_eq_self.mpr (fun _ _ => rfl)]
theorem sum_ones : ∀ (n : Nat) (f : Nat → Nat), (∀ i, f i = 1) → ((List.range n).map f).sum = n
  | 0, _, _ => rfl
  | n + 1, f, h => by
    rw [List.range_succ, List.map_append, List.sum_append, sum_ones n f h]
    simp [h]
/-- a text put together of single signs -/
theorem z_join1 {K : PySem.W.Frag} {H : Hp} {Q : VK} {p : Addr} {n : Nat} {f : Nat → Nat} (h : H p = some (.lst ((List.range n).map fun k => V.str ⟨#[f k]⟩))) (hn : n ≤ 1000) (q : Q (.str (S ((List.range n).map f))) H) : rJoin K (.str (Str.ofString "")) [.ref p] H Q := by
  refine ⟨_, p, (List.range n).map (fun k => S [f k]), rfl, rfl, .inl ?_, ?_, ?_⟩
  · rw [List.map_map]
    exact sq_of h
  · rw [List.map_map, List.length_map, List.length_range, show (Str.ofString "" : Str).length = 0 by decide +kernel, sum_ones n ((fun x : Str => x.length) ∘ fun k : Nat => S [f k]) fun i => rfl]
    omega
  · rw [empty_str]
    have e : (List.range n).map (fun k => S [f k]) = ((List.range n).map fun k => [f k]).map S := by rw [List.map_map] <;> rfl
    have g : ∀ l : List Nat, (l.map fun k => [f k]).flatten = l.map f := fun l => by
      induction l with
      | nil => rfl
      | cons a r ih => rw [List.map_cons, List.flatten_cons, ih] <;> rfl
    rw [e, join_S, g]
    exact q
theorem strOk_S {l : List Nat} (h : okS l) : PyData.strOk (S l) = true := by
  unfold PyData.strOk
  rw [← Array.all_toList, S_tl, List.all_eq_true]
  exact fun c hc => decide_eq_true (h c hc)
theorem strOk_T {z : Str} {n : Nat} (h : okT z n) : PyData.strOk z = true := by
  rw [S_of z]
  exact strOk_S h.2
theorem strs_dp {K : PySem.W.Frag} {H : Hp} : ∀ {zs : List Str}, (∀ z ∈ zs, ∃ n, okT z n) → DpAll K H (zs.map V.str) (zs.map PyData.str) ∧ clAll (zs.map PyData.str) = true ∧ PyData.depthAll (zs.map PyData.str) = 0
  | [], _ => ⟨.nil, rfl, rfl⟩
  | z :: zs, h => by
    obtain ⟨n, hz⟩ := h z List.mem_cons_self
    obtain ⟨a, b, c⟩ := strs_dp (K := K) (H := H) fun u hu => h u (List.mem_cons_of_mem _ hu)
    refine ⟨.cons (.str z) a, ?_, ?_⟩
    · show (PyData.strOk z && clAll (zs.map PyData.str)) = true
      rw [strOk_T hz, b] <;> rfl
    · show max 0 (PyData.depthAll (zs.map PyData.str)) = 0
      rw [c] <;> rfl
end Z

set_option Elab.async false
set_option linter.all false
set_option maxRecDepth 100000
set_option maxHeartbeats 4000000
/-! Zr: list(reversed(xs)) of a list. -/
namespace Z
open PySem PySem.Spec PyProof.Rows L2
section
variable {prog : Program} {w : World} {A : Around} {E : Value → Shared → Prop} {s : Shared}
/-- a list that stands empty is filled by a reversing iterator -/
theorem fill_rev {R : Result → Shared → Prop} {T it l : Addr} {items : Array Value} {res : Value} {c0 : Nat} (hh : A.handled = none) (hit : s.heap.IsRevIter it l ((items.size : Int) - 1)) (hl : s.heap.IsList l items) (ne : l ≠ it) (n1 : T ≠ it) (n2 : T ≠ l) (hn : items.size ≤ sizeLine)
    (hT : s.heap.get? T = some { cls := .type "list", data := .seq #[] c0 })
    (hR : ∀ h' tk acc c, (∀ b o, b ≠ T → b ≠ it → s.heap.get? b = some o → h'.get? b = some o) → h'.get? T = some { cls := .type "list", dict := none, data := .seq acc c, slots := #[] } → ItemsOf (fun i v => items[items.size - 1 - i]? = some v) acc items.size → R (.ok (.ret res)) { s with heap := h', toks := tk }) :
    wpAny (model prog w) A.in1 (Builtin.List.listExtendWith (.ref T) (.ref it) res) (fun fin s' => match fin with | .done f => R (.ok f) s' | .again c' => c'.quiet = true ∧ codeAny (model prog w) A c' R s') (fun e s' => R (.error e) s') s := by
  have W := (Walks.listRev (prog := prog) (w := w) (A := A.in1) hh it l ne items).toS
  have off : T ∉ [it, l] := by simp [n1, n2]
  have ty : s.TypeIs (.ref it) "list_reverseiterator" := hit.typeIs
  have nsame : Builtin.List.listSameRef (.ref T) (.ref it) = false := by simp [Builtin.List.listSameRef, n1]
  (unfold Builtin.List.listExtendWith; skip)
  refine wpAny_bind (wpAny_typeOf ty ?_)
  rw [if_neg (by rw [nsame]; decide)]
  refine wpAny_bind (wpAny_pyIter_revIter hit (wpAny_bind (wpAny_holding ?_)))
  (unfold Builtin.List.listLengthHint; skip)
  refine wpAny_bind (wpAny_specialOf ty RT.nolen_lri ?_)
  show wpAny _ _ (specialOf (Value.ref it) (Str.ofString "__length_hint__") >>= _) _ _ _
  refine wpAny_bind (wpAny_specialOf ty RT.hint_lri ?_)
  generalize nm0 : ("list_reverseiterator.__length_hint__" : String) = nm
  (wp_delta; rw [show splitId nm = some ("list_reverseiterator", "__length_hint__") by subst nm0; decide +kernel]; subst nm0)
  refine wpAny_bind (wpAny_isInstance (b := true) ty (by rw [isSubtype_type]; kernel_rfl) (wpAny_pure ?_))
  rw [if_neg (by decide)]
  have z : ((items.size : Nat) : Int) - 1 - ((0 : Nat) : Int) = (items.size : Int) - 1 := by omega
  refine wpAny_pure ⟨plainId_quiet F.plain_extend_loop _, codeAny_extend_loopS W hn T off res items.size 0 _ #[] c0 rfl (Nat.zero_le _) ⟨Nat.zero_le _, by rw [z]; exact hit, hl⟩ hT (ItemsOf.nil _) fun s' acc c hm hT' hacc => ?_⟩
  rw [Moved.eq_with hm]
  refine hR s'.heap s'.toks acc c (fun b o b1 b2 e => hm.heap b o (fun m => ?_) e) hT' hacc
  rcases List.mem_cons.mp m with m | m
  · exact b1 m
  · exact b2 (List.mem_singleton.mp m)
theorem call_list_rev {it l : Addr} {items : Array Value} {Q : Value → Shared → Prop} (hh : A.handled = none) (hit : s.heap.IsRevIter it l ((items.size : Int) - 1)) (hl : s.heap.IsList l items) (ne : l ≠ it) (hn : items.size ≤ sizeLine)
    (hQ : ∀ h' tk acc c, (∀ b o, b ≠ it → s.heap.get? b = some o → h'.get? b = some o) → h'.get? s.heap.objs.size = some { cls := .type "list", dict := none, data := .seq acc c, slots := #[] } → ItemsOf (fun i v => items[items.size - 1 - i]? = some v) acc items.size → Q (.ref s.heap.objs.size) { s with heap := h', toks := tk }) :
    wpAny (model prog w) A (call (.type "list") [.ref it]) Q E s := by
  obtain ⟨oi, gi, _⟩ := id hit
  obtain ⟨ol, gl, _⟩ := id hl
  have si : s.heap.objs.size ≠ it := Nat.ne_of_gt (Heap.lt_size gi)
  have sl : s.heap.objs.size ≠ l := Nat.ne_of_gt (Heap.lt_size gl)
  refine callType_codes (Q₁ := fun obj s₁ => obj = .ref s.heap.objs.size ∧ s₁ = { s with heap := s.heap.push { cls := .type "list", data := .seq #[] } }) PySem.F.called_list (PySem.F.typeCall_list_1 _) PySem.F.entry_list_init (code_list_new _ ⟨rfl, rfl⟩) ?_
  rintro obj s₁ ⟨rfl, rfl⟩
  have new : (s.heap.push { cls := .type "list", data := .seq #[] }).get? s.heap.objs.size = some { cls := .type "list", data := .seq #[] } := Heap.get?_push_size _ rfl
  have up : ∀ b o, s.heap.get? b = some o → (s.heap.push { cls := .type "list", data := .seq #[] }).get? b = some o := fun b o e => Heap.get?_push_of_some _ e
  refine ⟨⟨_, new, rfl⟩, PySem.F.args_list_init_2 _ _, ?_⟩
  show wpAny _ _ (Builtin.List.listItems (.ref s.heap.objs.size) >>= _) _ _ _
  refine wpAny_bind ?_
  (unfold Builtin.List.listItems; skip)
  refine wpAny_bind (wpAny_seqItems new rfl (wpAny_pure ?_))
  show wpAny _ _ (updateSeq s.heap.objs.size (fun _ => #[]) >>= fun _ => letGo (#[] : Array Value).toList.reverse >>= fun _ => Builtin.List.listExtendWith (.ref s.heap.objs.size) (.ref it) .none) _ _ _
  refine wpAny_bind (wpAny_updateSeq new rfl ?_)
  have new2 := Heap.get?_update_self (Obj.mapSeq (fun _ => (#[] : Array Value))) new rfl
  have oth : ∀ b o, b ≠ s.heap.objs.size → s.heap.get? b = some o → ((s.heap.push { cls := .type "list", data := .seq #[] }).update s.heap.objs.size (Obj.mapSeq (fun _ => (#[] : Array Value)))).get? b = some o := fun b o hb e => (Heap.get?_update_other _ _ (Ne.symm hb)).trans (up b o e)
  refine wpAny_bind (wpAny_letGo ?_)
  refine fill_rev (A := A.in1) hh (hit.at fun o e => oth it o si.symm e) (hl.at fun o e => oth l o sl.symm e) ne si sl hn new2 fun h' tk acc c kp at_ ac => ?_
  exact ⟨rfl, hQ h' tk acc c (fun b o hb e => kp b o (Nat.ne_of_lt (Heap.lt_size e)) hb (oth b o (Nat.ne_of_lt (Heap.lt_size e)) e)) at_ ac⟩
end
/-- list(reversed(xs)): a new list -/
def tRevOf (K : PySem.W.Frag) (te : TE) : TE := fun σ H Q => te σ H fun x H1 => ∃ (a : Addr) (xs : List V), x = .ref a ∧ SqL K H1 a xs ∧ ∀ q, H1 q = none → Q (.ref q) (upd H1 q (.lst xs.reverse))
theorem pe_revOf {X : Cx} {e : Expr} {te : TE} {p1 p2 q1 q2 : Pos} (calm : X.calm = true) (g1 : Gl X "list") (m1 : X.mg "list" = none) (g2 : Gl X "reversed") (m2 : X.mg "reversed" = none) (he : PE X e te)
    (s1 : starEach [e] X.env = (false, eval e X.env) :: starEach [] X.env := by rfl)
    (s2 : starEach [.Call (.Name "reversed" p2) [e] [] q2] X.env = (false, eval (.Call (.Name "reversed" p2) [e] [] q2) X.env) :: starEach [] X.env := by rfl) :
    PE X (.Call (.Name "list" p1) [.Call (.Name "reversed" p2) [e] [] q2] [] q1) (tRevOf X.K te) := by
  refine ⟨fun pins s σ H Q I h => ?_⟩
  have inner : ∀ {s' : Shared} {H' : Hp}, Inv X pins σ H' s' → ∀ {u : Value} {x : V}, RelV x u → (∃ (a : Addr) (xs : List V), x = .ref a ∧ SqL X.K H' a xs ∧ ∀ q, H' q = none → Q (.ref q) (upd H' q (.lst xs.reverse))) →
      wpAny (model X.prog X.w) X.A (call (.type "reversed") [u]) (fun it s'' => wpAny (model X.prog X.w) X.A (call (.type "list") [it]) (EP X pins σ Q) X.xe s'') X.xe s' := fun {s' H'} I1 {u x} rx hx => by
    obtain ⟨a, xs, rfl, hs, q⟩ := hx
    cases rx
    obtain ⟨its, rv, pl, sz⟩ := I1.list hs
    refine call_reversed_list pl.isList ?_
    have up : ∀ b o, s'.heap.get? b = some o → (s'.heap.push (revObj a ((its.toArray.size : Int) - 1))).get? b = some o := fun b o g => Heap.get?_push_of_some _ g
    obtain ⟨ol, gl, _⟩ := id pl.isList
    have ne : a ≠ s'.heap.objs.size := Nat.ne_of_lt (Heap.lt_size gl)
    have nz : its.toArray.size ≤ sizeLine := by
      rw [List.size_toArray, ← rv.length]
      exact sz
    refine call_list_rev (s := { s' with heap := s'.heap.push (revObj a ((its.toArray.size : Int) - 1)) }) (I1.ok.hd calm) ⟨_, Heap.get?_push_size _ rfl, rfl, rfl⟩ (pl.isList.push _) ne nz fun h' tk acc c kp at_ ac => ?_
    have sz' : (s'.heap.push (revObj a ((its.toArray.size : Int) - 1))).objs.size = s'.heap.objs.size + 1 := by rw [size_push']
    rw [sz'] at at_ ⊢
    have big : s'.heap.objs.size ≤ s'.heap.objs.size + 1 := Nat.le_succ _
    have new : ObjOk X.prog X.w (upd H' (s'.heap.objs.size + 1) (.lst xs.reverse)) h' (s'.heap.objs.size + 1) (.lst xs.reverse) := by
      refine ⟨?_, acc.toList, c, RT.vals_rev rv ac, ?_⟩
      · rw [List.length_reverse]
        exact sz
      · rw [Array.toArray_toList]
        exact at_
    exact ⟨.ref (s'.heap.objs.size + 1), _, I1.laid (t' := tk) (fun b o g => kp b o (Nat.ne_of_lt (Heap.lt_size g)) (up b o g)) big new, rfl, q _ (I1.hok.fresh big)⟩
  refine Call_ (ld_blt I g1 m1 boot_list (PyProof.Rows.callWith_type1 (args_cons ?_ s2) s2 rfl))
  refine Call_ (ld_blt I g2 m2 PyProof.Rows.boot_reversed (PyProof.Rows.callWith_type1 (args_cons (thn (he.run pins s σ H _ I h) fun u s' ⟨x, H1, I1, rx, hx⟩ => args_nil ?_) s1) s1 rfl))
  exact wpAny_mono (inner I1 rx hx) (fun it s'' h => args_nil h) fun _ _ h => h
end Z

set_option Elab.async false
set_option linter.all false
set_option maxRecDepth 100000
set_option maxHeartbeats 4000000
/-! Zz0: what is asked of classes of exceptions, as tests. -/
namespace ZZ
open PySem PySem.Spec PyProof.Rows L2 Z
/-- what the written part says of an exception class of the program, ValueError at its base -/
def excB (K : PySem.W.Frag) (C : Addr) : Bool :=
  PySem.W.keepIn K (.ref C) && (PySem.W.excIn K C [.type "ValueError", .type "Exception", .type "BaseException", .type "object"] "ValueError.__new__" && ((PySem.W.subIn K (.ref C) (.type "BaseException") == some true) && (PySem.W.typeIn K (.ref C) == some (.type "type"))))
/-- what isinstance asks of an exception's class -/
def excCB (K : PySem.W.Frag) (D : Addr) : Bool :=
  He.eqO (PySem.W.findIn K (.ref D) "__getattribute__") (some (some (.builtin "BaseException.__getattribute__"))) && (He.eqO (PySem.W.findIn K (.ref D) "__getattr__") (some none) && ((PySem.W.subIn K (.ref D) (.type "BaseException") == some true) && (PySem.W.hasDictIn K D &&
    (He.eqO (PySem.W.findIn K (.ref D) "__class__") (some (some (.builtin "object.__class__"))) && (He.eqO (PySem.W.specialIn K (.builtin "object.__class__") "__get__") (some (some (.builtin "getset_descriptor.__get__"))) && ((PySem.W.takesIn K (.builtin "object.__class__") == some true) && (PySem.W.mroIn K D (.type "object") == some true)))))))
/-- what isinstance tells of exceptions of these classes -/
def kindsB (K : PySem.W.Frag) (es : List Str) (ts : List (Str × Str)) : Bool :=
  (es.all fun e => excCB K (He.ga K e)) && (es.all fun e => ts.all fun t => (PySem.W.kitOne K (.ref (He.ga K e)) (.ref (He.ga K t.1)) == some (decide (e = t.1)))) && (es.all fun e => (PySem.W.kitOne K (.ref (He.ga K e)) (.type "ValueError") == some true))
end ZZ

set_option Elab.async false
set_option linter.all false
set_option maxRecDepth 100000
set_option maxHeartbeats 4000000
/-! Zk: written dicts with text keys, whose values are plain or tuples of plain things; a head's facts with such tables. -/
namespace Z
open PySem PySem.Spec PyProof.Rows L2 He
inductive TV where
  | v (x : V)
  | tup (xs : List V)
def tupAt (K : PySem.W.Frag) (b : Addr) (vs : List V) : Bool := match K.lookup b with
  | some ⟨.type c, _, .seq its _, _⟩ => decide (c = "tuple") && (decide (its.size ≤ sizeLine) && relAll vs its.toList)
  | _ => false
theorem tupAt_ok {K : PySem.W.Frag} {b : Addr} {vs : List V} (h : tupAt K b vs = true) (H : Hp) : SqT K H b vs := by
  unfold tupAt at h
  cases q : K.lookup b with
  | none =>
    rw [q] at h
    cases h
  | some o =>
    obtain ⟨oc, od, dt, osl⟩ := o
    rw [q] at h
    cases oc with
    | type c =>
      cases dt with
      | seq its n =>
        have h0 : (decide (c = "tuple") && (decide (its.size ≤ sizeLine) && relAll vs its.toList)) = true := h
        obtain ⟨h1, h2⟩ := ba h0
        obtain ⟨h3, h4⟩ := ba h2
        exact .inr ⟨_, its, n, q, congrArg Value.type (of_decide_eq_true h1), rfl, of_decide_eq_true h3, relAll_ok h4⟩
      | _ => cases h
    | _ => cases dt <;> cases h
def tvB (K : PySem.W.Frag) : TV → Value → Bool
  | .v x, u => relB x u
  | .tup xs, .ref b => tupAt K b xs
  | .tup _, _ => false
def tabB (K : PySem.W.Frag) (a : Addr) (kvs : List (Str × TV)) : Bool := kvs.all fun p => match PySem.W.nsIn K a p.1 with
  | some (some u) => tvB K p.2 u
  | _ => false
def TvAt (K : PySem.W.Frag) (w : World) (a : Addr) (z : Str) : TV → Prop
  | .v x => KDct K w a z x
  | .tup xs => ∃ b, KDct K w a z (.ref b) ∧ ∀ H, SqT K H b xs
structure TabK (K : PySem.W.Frag) (w : World) (a : Addr) (kvs : List (Str × TV)) : Prop where
  d : ∃ es n, KDict K w a es n
  get : ∀ z t, (z, t) ∈ kvs → TvAt K w a z t
theorem tab_mk {K : PySem.W.Frag} {w : World} {a : Addr} {kvs : List (Str × TV)} (d : ∃ es n, KDict K w a es n) (h : tabB K a kvs = true) : TabK K w a kvs := by
  refine ⟨d, fun z t hm => ?_⟩
  obtain ⟨es, n, D⟩ := d
  have h1 := List.all_eq_true.mp h (z, t) hm
  cases e : PySem.W.nsIn K a z with
  | none =>
    rw [show PySem.W.nsIn K a (z, t).1 = none from e] at h1
    cases h1
  | some r =>
    rw [show PySem.W.nsIn K a (z, t).1 = some r from e] at h1
    cases r with
    | none => cases h1
    | some u =>
      have h2 : tvB K t u = true := h1
      cases t with
      | v x => exact ⟨es, n, u, D.at_, D.lit, e, relB_ok h2⟩
      | tup xs =>
        cases u with
        | ref b => exact ⟨b, ⟨es, n, .ref b, D.at_, D.lit, e, rfl⟩, tupAt_ok h2⟩
        | _ => cases h2
abbrev AlK : Type := (AlD × Bool) × List (Option (List (Option (Str × Int))))
def lookK (fa : List Fa) (fn : List DefD) (ex : PySem.W.Frag → Bool) (ts : List (Str × List Str)) (n : Nat) (g : Addr → Option Obj) : AlK :=
  (lookZ fa fn ex n g, ts.map fun t => dicW (frG g (asD g n)) (ga (frG g (asD g n)) t.1))
def hookK (fa : List Fa) (fn : List DefD) (ex : PySem.W.Frag → Bool) (ts : List (Str × List Str)) (n : Nat) : PySem.W.Hook where
  α := AlK
  obs := fun st => lookK fa fn ex ts n st.heap.get?
  val := fun w => ((valD fn, true), ts.map fun t => some (keysIn w.params t.2))
  says := fun w hp => ∃ F : PySem.W.Frag, F.In hp ∧ SaysD fa fn F ∧ ex F = true ∧ (ts.map fun t => dicW F (ga F t.1)) = ts.map fun t => some (keysIn w.params t.2)
  of := fun w s eq => by
    have e : lookK fa fn ex ts n s.heap.get? = ((valD fn, true), ts.map fun t => some (keysIn w.params t.2)) := eq
    exact ⟨_, frG_in, congrArg (fun z : AlK => z.1.1) e, congrArg (fun z : AlK => z.1.2) e, congrArg (fun z : AlK => z.2) e⟩
  keeps := fun _ _ _ ⟨F, hF, cF, xF, tF⟩ kp => ⟨F, PySem.W.Frag.In.keeps hF kp, cF, xF, tF⟩
theorem lookK_eq {fa : List Fa} {fn : List DefD} {ex : PySem.W.Frag → Bool} {ts : List (Str × List Str)} {n : Nat} {g : Addr → Option Obj} {st : Shared} (hg : ∀ a, g a = st.heap.get? a) : lookK fa fn ex ts n g = (hookK fa fn ex ts n).obs st := by
  have e : g = st.heap.get? := funext hg
  subst e
  rfl
theorem tabs_at {w : World} {F : PySem.W.Frag} {ts : List (Str × List Str)} (h : (ts.map fun t => dicW F (ga F t.1)) = ts.map fun t => some (keysIn w.params t.2)) (i : Nat) {t : Str × List Str} (e : ts[i]? = some t) : ∃ es n, KDict F w (ga F t.1) es n := by
  have e2 : (ts.map fun t => dicW F (ga F t.1))[i]? = (ts.map fun t => some (keysIn w.params t.2))[i]? := by rw [h]
  rw [List.getElem?_map, List.getElem?_map, e] at e2
  exact dicW_ok (Option.some.inj e2)
section
variable {K : PySem.W.Frag} {w : World} {H : Hp} {Q : VK} {a : Addr} {z : Str} {v : V}
theorem z_ixK (h : KDct K w a z v) (q : Q v H) : rIxD K w (.ref a) (.str z) H Q := ⟨a, z, v, rfl, rfl, h, q⟩
end
end Z


set_option Elab.async false
set_option linter.all false
set_option maxRecDepth 100000
set_option maxHeartbeats 4000000
/-! Zq: what stays but at some places; comprehensions over enumerate, and by one's own invariant; dicts by written keys. -/
namespace Z
open PySem PySem.Spec PyProof.Rows L2
open Evl (Ex ex_l ex_t ex_rd sq_of st_of fresh_back RetL RetV)
/-- all but what may be written stays -/
def But (B : List Addr) (H H' : Hp) : Prop := ∀ b o, b ∉ B → H b = some o → H' b = some o
section
variable {B C : List Addr} {H H' H2 : Hp} {p : Addr} {o : HO}
theorem But.refl : But B H H := fun _ _ _ h => h
theorem But.ex (e : Ex H H') : But B H H' := fun b o _ h => e b o h
theorem But.trans (a : But B H H') (b : But B H' H2) : But B H H2 := fun c o hc h => b c o hc (a c o hc h)
theorem But.mono (a : But B H H') (s : ∀ b ∈ B, b ∈ C) : But C H H' := fun c o hc h => a c o (fun z => hc (s c z)) h
theorem But.put (h : p ∈ B) : But B H (upd H p o) := fun b u hb e => by
  rw [upd_ne fun z => hb (by rw [z]; exact h)]
  exact e
theorem But.put' (a : But B H H') (h : p ∈ B) : But B H (upd H' p o) := a.trans (But.put h)
theorem But.mut (a : But B H H') (h : H p = none) : But B H (upd H' p o) := fun b u hb e => by
  rw [upd_ne (ne_of_none e h)]
  exact a b u hb e
theorem But.exOf (a : But B H H') (h : ∀ b ∈ B, H b = none) : Ex H H' := fun b u e => a b u (fun z => by
  rw [h b z] at e
  cases e) e
/-- an address that is new later was new ahead, but for the places -/
theorem But.fresh (a : But B H H') (h : H' p = none) (hp : p ∉ B) : H p = none := by
  cases e : H p with
  | none => rfl
  | some u =>
    have := a p u hp e
    rw [h] at this
    cases this
end
/-! ### comprehensions over enumerate -/
def CE (K : PySem.W.Frag) (g : TG) (tt : TT) (te : TE) (vs : List Nat) (σ : L2.St) (xs : List V) (H1 : Hp) (Q : VK) : Prop := ∃ a ys, xs = [.ref a] ∧ SqL K H1 a ys ∧ CW (Ite K a) g tt te vs σ H1 Q
section
variable {K : PySem.W.Frag} {σ : L2.St} {H : Hp} {Q : VK} {g : TG} {tt : TT} {te tl : TE} {ta : TA} {vs : List Nat} {a : Addr} {xs : List V} {n j m : Nat}
theorem z_ce (q : ta σ H fun x H1 => CE K g tt te vs σ x H1 Q) : tLc (iEnum K ta) g tt te vs σ H Q := q
theorem z_CE (hx : SqL K H a xs) (hz : xs.length ≤ 40000) (f : Nat → Bool) (v : Nat → V) (hw : ∀ x y, wipe (((wipe σ vs).set m (some x)).set j (some y)) vs = wipe σ vs)
    (ht : ∀ i x H', i < xs.length → xs[i]? = some x → Ex H H' → Evl.EvT tt (((wipe σ vs).set m (some (.int (i : Nat)))).set j (some x)) H' (f i)) (he : ∀ i x H', i < xs.length → xs[i]? = some x → Ex H H' → f i = true → Evl.Ev te (((wipe σ vs).set m (some (.int (i : Nat)))).set j (some x)) H' (v i))
    (q : ∀ p H2, H p = none → Ex H H2 → H2 p = some (.lst (Evl.given xs.length f v)) → Q (.ref p) H2) : CE K (gTup K 2 (gCons (gName m) (gCons (gName j) gNil))) tt te vs σ [.ref a] H Q :=
  ⟨a, xs, rfl, hx, fun Dl hD => lc_it walk_enum (Evl.Cw H f v Dl) ⟨hD, Ex.new hD, upd_same⟩ (fun _ _ _ p => ex_l p.2.1 hx) (fun i x H1 H2 hi p y => by
    obtain ⟨T, u, x', rfl, e1, rfl, e3, e4⟩ := y
    cases e3
    refine z_gtup2 (st_of upd_same) ⟨hw _ _, ?_⟩
    have p2 : Evl.Cw H f v Dl i (upd H1 T (.tup [.int (i : Nat), x'])) := ⟨p.1, p.2.1.trans (Ex.new e1), Ex.new e1 _ _ p.2.2⟩
    exact Evl.cw_turn p2 (by omega) (ht i x' H hi e4 (Ex.refl H)) fun hf => he i x' H hi e4 (Ex.refl H) hf) (fun H' p => q Dl H' p.1 p.2.1 p.2.2)⟩
/-- one's own invariant: over a range, a list, enumerate -/
theorem z_CR1w {m : Int} (hn : 0 ≤ m ∧ m ≤ 40000) (Pv : Addr → Nat → Hp → Prop) (h0 : ∀ D, H D = none → Pv D 0 (upd H D (.lst []))) (hw : ∀ x, wipe ((wipe σ vs).set j (some x)) vs = wipe σ vs)
    (hs : ∀ D (i : Nat) H1, H D = none → i < m.toNat → Pv D i H1 → te ((wipe σ vs).set j (some (.int (i : Int)))) H1 fun y H2 => ∃ acc, H2 D = some (.lst acc) ∧ acc.length < sizeLine ∧ Pv D (i + 1) (upd H2 D (.lst (acc ++ [y]))))
    (q : ∀ D H2, H D = none → Pv D m.toNat H2 → Q (.ref D) H2) : CR1 (gName j) tYes te vs σ [.int m] H Q :=
  ⟨m, rfl, by omega, by omega, fun D hD => lc_it walk_range (Pv D) (h0 D hD) (fun _ _ _ _ => trivial) (fun i x H1 H2 hi p y => by
    obtain ⟨rfl, rfl⟩ := y
    refine ⟨hw _, ?_⟩
    show te ((wipe σ vs).set j (some (.int (0 + (i : Int))))) H2 _
    rw [Int.zero_add]
    exact hs D i H2 hD hi p) (fun H' p => q D H' hD p)⟩
theorem z_CLw (hx : SqL K H a xs) (Pv : Addr → Nat → Hp → Prop) (h0 : ∀ D, H D = none → Pv D 0 (upd H D (.lst []))) (hG : ∀ D i H1, H D = none → Pv D i H1 → SqL K H1 a xs) (hw : ∀ x, wipe ((wipe σ vs).set j (some x)) vs = wipe σ vs)
    (hs : ∀ D i x H1, H D = none → i < xs.length → xs[i]? = some x → Pv D i H1 → te ((wipe σ vs).set j (some x)) H1 fun y H2 => ∃ acc, H2 D = some (.lst acc) ∧ acc.length < sizeLine ∧ Pv D (i + 1) (upd H2 D (.lst (acc ++ [y]))))
    (q : ∀ D H2, H D = none → Pv D xs.length H2 → Q (.ref D) H2) : CL K (gName j) tYes te vs σ (.ref a) H Q :=
  ⟨a, rfl, ⟨xs, hx⟩, fun D hD => lc_it walk_list (Pv D) (h0 D hD) (fun i H1 _ p => hG D i H1 hD p) (fun i x H1 H2 hi p y => by
    obtain ⟨rfl, e⟩ := y
    exact ⟨hw _, hs D i x H2 hD hi e p⟩) (fun H' p => q D H' hD p)⟩
theorem z_CEw (hx : SqL K H a xs) (Pv : Addr → Nat → Hp → Prop) (h0 : ∀ D, H D = none → Pv D 0 (upd H D (.lst []))) (hG : ∀ D i H1, H D = none → Pv D i H1 → SqL K H1 a xs) (hw : ∀ x y, wipe (((wipe σ vs).set m (some x)).set j (some y)) vs = wipe σ vs)
    (hs : ∀ D i x H1 H2, H D = none → i < xs.length → xs[i]? = some x → Pv D i H1 → Ex H1 H2 → te (((wipe σ vs).set m (some (.int (i : Nat)))).set j (some x)) H2 fun y H3 => ∃ acc, H3 D = some (.lst acc) ∧ acc.length < sizeLine ∧ Pv D (i + 1) (upd H3 D (.lst (acc ++ [y]))))
    (q : ∀ D H2, H D = none → Pv D xs.length H2 → Q (.ref D) H2) : CE K (gTup K 2 (gCons (gName m) (gCons (gName j) gNil))) tYes te vs σ [.ref a] H Q :=
  ⟨a, xs, rfl, hx, fun D hD => lc_it walk_enum (Pv D) (h0 D hD) (fun i H1 _ p => hG D i H1 hD p) (fun i x H1 H2 hi p y => by
    obtain ⟨T, u, x', rfl, e1, rfl, e3, e4⟩ := y
    cases e3
    refine z_gtup2 (st_of upd_same) ⟨hw _ _, ?_⟩
    exact hs D i x' H1 _ hD hi e4 p (Ex.new e1)) (fun H' p => q D H' hD p)⟩
end
/-! ### dicts with a few written keys -/
section
variable {K : PySem.W.Frag} {σ : L2.St} {H : Hp} {Q : VK} {a : Addr} {kvs : List (Key × V)} {x : Str} {v y : V}
theorem z_dgetK (hd : H a = some (.dK kvs)) (e : valV kvs (Sum.inr x) = some v) (q : Q v H) : ∃ a' v', V.ref a = .ref a' ∧ DGet H a' (.str x) (some v') ∧ Q v' H := by
  refine ⟨a, v, rfl, ?_, q⟩
  rw [← e]
  exact DGet.k (k := Sum.inr x) hd
theorem dgK (hd : H a = some (.dK kvs)) (e : valV kvs (Sum.inr x) = some v) : DGet H a (.str x) (some v) := by
  rw [← e]
  exact DGet.k (k := Sum.inr x) hd
theorem dgI {i : Int} (hd : H a = some (.dK kvs)) (e : valV kvs (Sum.inl i) = some v) : DGet H a (.int i) (some v) := by
  rw [← e]
  exact DGet.k (k := Sum.inl i) hd
theorem z_dgetI {i : Int} (hd : H a = some (.dK kvs)) (e : valV kvs (Sum.inl i) = some v) (q : Q v H) : ∃ a' v', V.ref a = .ref a' ∧ DGet H a' (.int i) (some v') ∧ Q v' H := by
  refine ⟨a, v, rfl, ?_, q⟩
  rw [← e]
  exact DGet.k (k := Sum.inl i) hd
end
theorem valV_str {kvs : List (Key × V)} {x : Str} {v : V} (h : kvs.find? (fun kv => decide (kv.1 = Sum.inr x)) = some (Sum.inr x, v)) : valV kvs (Sum.inr x) = some v := by
  unfold valV
  rw [h] <;> rfl
end Z

set_option Elab.async false
set_option linter.all false
set_option maxRecDepth 100000
set_option maxHeartbeats 4000000
/-! Zw: enumerate of a tuple; zip of a list or a tuple beside another one. b tells a tuple. -/
namespace ZW
open PySem PySem.Spec PyProof.Rows L2
open PySem.AutoSeq1 (wpAny_loadPart')
def SIt : Bool → Heap → Addr → Addr → Nat → Prop
  | false, h, it, l, i => h.IsListIter it l i
  | true, h, it, l, i => h.IsTupleIter it l i
def SOf : Bool → Heap → Addr → Array Value → Prop
  | false, h, l, xs => h.IsList l xs
  | true, h, l, xs => h.IsTuple l xs
theorem SIt.keep {b : Bool} {h h' : Heap} {it l : Addr} {i : Nat} (k : ∀ o, h.get? it = some o → h'.get? it = some o) (x : SIt b h it l i) : SIt b h' it l i := by
  cases b with
  | false =>
    obtain ⟨o, g, r⟩ := (x : h.IsListIter it l i)
    exact ⟨o, k o g, r⟩
  | true =>
    obtain ⟨o, g, r⟩ := (x : h.IsTupleIter it l i)
    exact ⟨o, k o g, r⟩
theorem SOf.keep {b : Bool} {h h' : Heap} {l : Addr} {xs : Array Value} (k : ∀ o, h.get? l = some o → h'.get? l = some o) (x : SOf b h l xs) : SOf b h' l xs := by
  cases b with
  | false =>
    obtain ⟨o, g, r⟩ := (x : h.IsList l xs)
    exact ⟨o, k o g, r⟩
  | true =>
    obtain ⟨o, g, r⟩ := (x : h.IsTuple l xs)
    exact ⟨o, k o g, r⟩
theorem SIt.obj {b : Bool} {h : Heap} {it l : Addr} {i : Nat} (x : SIt b h it l i) : ∃ o, h.get? it = some o ∧ ∀ v, o.data ≠ .cell v := by
  cases b with
  | false =>
    obtain ⟨o, g, _, d⟩ := (x : h.IsListIter it l i)
    exact ⟨o, g, fun v z => by rw [d] at z; cases z⟩
  | true =>
    obtain ⟨o, g, _, d⟩ := (x : h.IsTupleIter it l i)
    exact ⟨o, g, fun v z => by rw [d] at z; cases z⟩
theorem SIt.lt {b : Bool} {h : Heap} {it l : Addr} {i : Nat} (x : SIt b h it l i) : it < h.objs.size := by
  obtain ⟨o, g, _⟩ := x.obj
  exact Heap.lt_size g
theorem SIt.but {b : Bool} {h h' : Heap} {it l c : Addr} {i : Nat} (k : Heap.SameBut c h h') (n : it ≠ c) (x : SIt b h it l i) : SIt b h' it l i := x.keep fun o g => (k.2 it n).trans g
theorem SOf.but {b : Bool} {h h' : Heap} {l c : Addr} {xs : Array Value} (k : Heap.SameBut c h h') (n : l ≠ c) (x : SOf b h l xs) : SOf b h' l xs := x.keep fun o g => (k.2 l n).trans g
section
variable {prog : Program} {w : World} {A : Around} {E : Value → Shared → Prop} {s : Shared}
theorem s_item {b : Bool} {it l : Addr} {i : Nat} {xs : Array Value} {x : Value} {Q : Value → Shared → Prop} (si : SIt b s.heap it l i) (so : SOf b s.heap l xs) (ex : xs[i]? = some x)
    (q : ∀ h', SIt b h' it l (i + 1) → Heap.SameBut it s.heap h' → Q x { s with heap := h' }) : wpAny (model prog w) A (Builtin.SmallTypes.nextOf (.ref it)) Q E s := by
  cases b with
  | false => exact wpAny_nextOf_list_item si so ex q
  | true => exact RZ.nextOf_tuple_item si so ex q
theorem s_end {b : Bool} {it l : Addr} {i : Nat} {xs : Array Value} {Q : Value → Shared → Prop} (hh : A.handled = none) (si : SIt b s.heap it l i) (so : SOf b s.heap l xs) (ex : xs[i]? = none)
    (q : ∀ h' e, Heap.ExtBut it s.heap h' → (∃ o, h'.get? e = some o ∧ o.cls = .type "StopIteration") → E (.ref e) { s with heap := h' }) : wpAny (model prog w) A (Builtin.SmallTypes.nextOf (.ref it)) Q E s := by
  cases b with
  | false => exact wpAny_nextOf_list_end hh si so ex q
  | true => exact RZ.nextOf_tuple_end hh si so ex q
/-- a turn of enumerate, whatever stands within -/
theorem en_item {b : Bool} {e it l : Addr} {i : Nat} {xs : Array Value} {x was : Value} {Q : Option Value → Shared → Prop} (ee : IsEnum s.heap e it i was) (si : SIt b s.heap it l i) (so : SOf b s.heap l xs) (ex : xs[i]? = some x) (ne : e ≠ it)
    (q : ∀ h', IsEnumOut h' e it ((i : Int) + 1) x s.heap.objs.size → SIt b h' it l (i + 1) → h'.get? s.heap.objs.size = some (seqObj "tuple" #[.int i s.toks, x] 0) → (∀ c o, c ≠ e → c ≠ it → s.heap.get? c = some o → h'.get? c = some o) → Q (some (.ref s.heap.objs.size)) { s with heap := h', toks := s.toks + 1 }) :
    wpAny (model prog w) A (pyNext (.ref e)) Q E s := by
  have ty : s.TypeIs (.ref e) "enumerate" := ⟨_, ee, rfl⟩
  have el := Heap.lt_size ee
  unfold pyNext
  refine wpAny_bind (wpAny_attempt (wpAny_callSpecial?_slot (name := Str.ofString "__next__") ty F.slot_enumerate_next (wpAny_call_entry F.slot_enumerate_next ty F.entry_enumerate_next ?_ (F.args_enumerate_next_1 _))))
  obtain ⟨h, g, d, tk, os⟩ := s
  show wpAny _ _ (field (.ref e) 2 >>= _) _ _ _
  refine wpAny_bind (wpAny_field ee rfl (x := .ref it) rfl (wpAny_bind (s_item si so ex fun h1 si1 c1 => ?_)))
  have e1 : IsEnum h1 e it i was := (c1.2 e ne).trans ee
  show wpAny _ _ (field (.ref e) 3 >>= _) _ _ _
  refine wpAny_bind (wpAny_field e1 rfl (x := rawInt i) rfl ?_)
  show wpAny _ _ (field (.ref e) 4 >>= _) _ _ _
  refine wpAny_bind (wpAny_field e1 rfl (x := .none) rfl ?_)
  show wpAny _ _ (mkInt i >>= _) _ _ _
  refine wpAny_bind (wpAny_mkInt ?_)
  show wpAny _ _ (setField (.ref e) 3 (rawInt ((i : Int) + 1)) >>= _) _ _ _
  refine wpAny_bind (wpAny_setField_rec e1 (by simp) fun h2 e2 c2 => ?_)
  have e2' : IsEnum h2 e it ((i : Int) + 1) was := e2
  show wpAny _ _ (setField (.ref e) 4 .none >>= _) _ _ _
  refine wpAny_bind (wpAny_setField_rec e2' (by simp) fun h3 e3 c3 => ?_)
  have e3' : IsEnum h3 e it ((i : Int) + 1) was := e3
  have sz3 : h3.objs.size = h.objs.size := c3.1.trans (c2.1.trans c1.1)
  show wpAny _ _ (newTuple [.int i tk, x] >>= _) _ _ _
  refine wpAny_bind (wpAny_newTuple ?_)
  have e4 : IsEnum (h3.push (seqObj "tuple" #[.int i tk, x] 0)) e it ((i : Int) + 1) was := Heap.get?_push_of_some _ e3'
  have t4 : (h3.push (seqObj "tuple" #[.int i tk, x] 0)).get? h.objs.size = some (seqObj "tuple" #[.int i tk, x] 0) := by
    rw [← sz3]
    exact Heap.get?_push_size _ rfl
  have o4 : ∀ c o, c ≠ e → c ≠ it → h.get? c = some o → (h3.push (seqObj "tuple" #[.int i tk, x] 0)).get? c = some o := fun c o n1 n2 gc => Heap.get?_push_of_some _ ((c3.2 c n1).trans ((c2.2 c n1).trans ((c1.2 c n2).trans gc)))
  have si4 : SIt b (h3.push (seqObj "tuple" #[.int i tk, x] 0)) it l (i + 1) := ((si1.but c2 ne.symm).but c3 ne.symm).keep fun o gc => Heap.get?_push_of_some _ gc
  show wpAny _ _ (Builtin.SmallTypes.ownedTupleIsFree (.ref e) >>= _) _ _ { heap := h3.push (seqObj "tuple" #[.int i tk, x] 0), gens := g, drawn := d, toks := tk + 1, os := os }
  rw [sz3]
  generalize h3.push (seqObj "tuple" #[.int i tk, x] 0) = h4 at e4 t4 o4 si4 ⊢
  clear e3 e3' c3 e2 e2' c2 e1 c1 si1 sz3 h3 h2 h1
  refine wpAny_bind ?_
  unfold Builtin.SmallTypes.ownedTupleIsFree
  refine wpAny_bind (wpAny_field e4 rfl (x := .none) rfl (wpAny_pure ?_))
  simp only [if_true]
  refine wpAny_bind (wpAny_rule (wpAny_bind (wpAny_field e4 rfl (x := was) rfl (wpAny_bind (wpAny_setField_rec e4 (by simp) fun h5 e5 c5 => ?_)))))
  have e5' : IsEnum h5 e it ((i : Int) + 1) x := e5
  show wpAny _ _ (Builtin.SmallTypes.ownedTupleHandOut (.ref e) (.ref h.objs.size) >>= _) _ _ _
  refine wpAny_bind ?_
  unfold Builtin.SmallTypes.ownedTupleHandOut
  refine wpAny_bind (wpAny_setField_rec e5' (by simp) fun h6 e6 c6 => ?_)
  have e6' : IsEnumOut h6 e it ((i : Int) + 1) x h.objs.size := e6
  refine wpAny_setField_rec e6' (by simp) fun h7 e7 c7 => wpAny_bind (wpAny_letGo (wpAny_pure ⟨_, rfl, wpAny_pure ?_⟩))
  have up : ∀ c, c ≠ e → h7.get? c = h4.get? c := fun c n => (c7.2 c n).trans ((c6.2 c n).trans (c5.2 c n))
  exact q h7 e7 (si4.keep fun o gc => (up it ne.symm).trans gc) ((up _ (Nat.ne_of_gt el)).trans t4) fun c o n1 n2 gc => (up c n1).trans (o4 c o n1 n2 gc)
theorem en_end {b : Bool} {e it l : Addr} {i : Nat} {xs : Array Value} {was : Value} {Q : Option Value → Shared → Prop} (hh : A.handled = none) (ee : IsEnum s.heap e it i was) (si : SIt b s.heap it l i) (so : SOf b s.heap l xs) (ex : xs[i]? = none)
    (q : ∀ h', Heap.ExtBut it s.heap h' → Q none { s with heap := h' }) : wpAny (model prog w) A (pyNext (.ref e)) Q E s := by
  have ty : s.TypeIs (.ref e) "enumerate" := ⟨_, ee, rfl⟩
  unfold pyNext
  refine wpAny_bind (wpAny_attempt (wpAny_callSpecial?_slot (name := Str.ofString "__next__") ty F.slot_enumerate_next (wpAny_call_entry F.slot_enumerate_next ty F.entry_enumerate_next ?_ (F.args_enumerate_next_1 _))))
  show wpAny _ _ (field (.ref e) 2 >>= _) _ _ _
  refine wpAny_bind (wpAny_field ee rfl (x := .ref it) rfl (wpAny_bind (s_end hh si so ex fun h1 z k1 ⟨oz, gz, cz⟩ => ?_)))
  exact wpAny_bind (wpAny_isInstance (T := "StopIteration") (b := true) ⟨oz, gz, cz⟩ isSubtype_stop (wpAny_pure (q _ k1)))
end
theorem new_enT (l : Addr) (xs : Array Value) (n : Nat) (dc : Option Addr) (sl : Array (Option Value)) :
    Meets (Builtin.«enumerate.__new__» ⟨[.type "enumerate", .ref l], []⟩) (fun _ R s => s.heap.get? l = some { cls := .type "tuple", dict := dc, data := .seq xs n, slots := sl } ∧
      R (.ok (.ret (.ref (s.heap.push { cls := .type "tuple_iterator", data := .fields #[.ref l, .int 0 0] }).objs.size)))
        { s with heap := (s.heap.push { cls := .type "tuple_iterator", data := .fields #[.ref l, .int 0 0] }).push { cls := .type "enumerate", data := .fields #[.none, .bool false, .ref s.heap.objs.size, rawInt 0, .none, .none] } }) :=
  .of_wp fun prog w A R s ⟨gl, hR⟩ => by
    obtain ⟨h, g, d, tk, os⟩ := s
    have sb := sub_enumerate
    have tl : Heap.IsTuple (Shared.heap ⟨h, g, d, tk, os⟩) l xs := ⟨_, gl, rfl, n, rfl⟩
    wp_walk using wpAny_loadPart' gl
    refine wpAny_stack_any fun st => wpAny_pure ?_
    split
    · rename_i c _ _ _ _ _
      cases (c == Value.type "enumerate") <;> (wp_walk using wpAny_loadPart' gl, wpAny_pyIter_tuple tl; exact ⟨_, rfl, hR⟩)
    · wp_walk using wpAny_loadPart' gl, wpAny_pyIter_tuple tl
      exact ⟨_, rfl, hR⟩
section
variable {prog : Program} {w : World} {A : Around} {E : Value → Shared → Prop} {s : Shared}
theorem call_en {b : Bool} {l : Addr} {xs : Array Value} {Q : Value → Shared → Prop} (so : SOf b s.heap l xs)
    (q : ∀ h', IsEnum h' (s.heap.objs.size + 1) s.heap.objs.size 0 .none → SIt b h' s.heap.objs.size l 0 → (∀ c o, s.heap.get? c = some o → h'.get? c = some o) → Q (.ref (s.heap.objs.size + 1)) { s with heap := h' }) :
    wpAny (model prog w) A (call (.type "enumerate") [.ref l]) Q E s := by
  cases b with
  | false => exact call_enumerate_list so fun h' a b _ c => q h' a b c
  | true =>
    obtain ⟨⟨c, dc, dt, sl⟩, gl, hc, n, hd⟩ := (so : s.heap.IsTuple l xs)
    obtain rfl : c = .type "tuple" := hc
    obtain rfl : dt = .seq xs n := hd
    refine callType_new F.called_enumerate (by decide) (F.typeCall_enumerate_1 _) (F.newCall_enumerate_1 _) (fun obj => F.args_object_init_2 obj _) F.entry_enumerate_new (new_enT l xs n dc sl) ⟨gl, ?_⟩
    have z1 : (s.heap.push { cls := .type "tuple_iterator", data := .fields #[.ref l, .int 0 0] }).objs.size = s.heap.objs.size + 1 := Heap.size_push ..
    show _ ∧ _
    rw [z1]
    have ee : IsEnum ((s.heap.push { cls := .type "tuple_iterator", data := .fields #[.ref l, .int 0 0] }).push { cls := .type "enumerate", data := .fields #[.none, .bool false, .ref s.heap.objs.size, rawInt 0, .none, .none] }) (s.heap.objs.size + 1) s.heap.objs.size 0 .none := by
      have z := Heap.get?_push_size (s.heap.push { cls := .type "tuple_iterator", data := .fields #[.ref l, .int 0 0] }) (o := { cls := .type "enumerate", data := .fields #[.none, .bool false, .ref s.heap.objs.size, rawInt 0, .none, .none] }) rfl
      rw [z1] at z
      exact z
    exact ⟨⟨_, ee, rfl⟩, q _ ee ⟨_, Heap.get?_push_of_some _ (Heap.get?_push_size _ rfl), rfl, rfl⟩ fun c o gc => Heap.get?_push_of_some _ (Heap.get?_push_of_some _ gc)⟩
end
/-- a list or a tuple -/
def SqS (b : Bool) (K : PySem.W.Frag) (H : Hp) (a : Addr) (xs : List V) : Prop := match b with
  | false => SqL K H a xs
  | true => SqT K H a xs
section
variable {X : Cx} {pins : List (Addr × Obj)} {σ : L2.St} {H : Hp} {s : Shared} {a : Addr} {xs ys : List V} {b : Bool}
theorem sOf (I : Inv X pins σ H s) (h : SqS b X.K H a xs) : ∃ its : List Value, Vals xs its ∧ SOf b s.heap a its.toArray ∧ xs.length ≤ sizeLine := by
  cases b with
  | false =>
    obtain ⟨its, rv, p, z⟩ := I.list h
    exact ⟨its, rv, p.isList, z⟩
  | true =>
    obtain ⟨its, rv, p, z⟩ := I.tuple h
    exact ⟨its, rv, p, z⟩
theorem sInj (I : Inv X pins σ H s) (h : SqS b X.K H a xs) (k : SqS b X.K H a ys) : xs = ys := by
  cases b with
  | false => exact I.list_inj h k
  | true => exact I.tuple_inj h k
end
def IteS (b : Bool) (K : PySem.W.Frag) (a : Addr) : It :=
  ⟨fun i H => ∃ (xs : List V) (x : V), SqS b K H a xs ∧ xs[i]? = some x, fun i H v H' => ∃ T x, v = .ref T ∧ H T = none ∧ H' = upd H T (.tup [.int (i : Nat), x]) ∧ ∀ xs, SqS b K H a xs → xs[i]? = some x, fun i H => ∃ xs : List V, SqS b K H a xs ∧ xs.length ≤ i⟩
theorem turn_enS {P : Program} {w : World} {K : PySem.W.Frag} {elts : List Expr} {kk : Nat} {tpos : Pos} (b : Bool) (a e it : Addr) :
    Turn P w K (.Tuple elts kk tpos) (IteS b K a) [e, it] e (fun i h => (∃ was, IsEnum h e it ((i : Nat) : Int) was) ∧ SIt b h it a i ∧ e ≠ it) where
  mem := List.mem_cons_self
  obj := fun i h st c hc => by
    obtain ⟨⟨was, ee⟩, si, _⟩ := st
    rcases List.mem_cons.mp hc with z | z
    · rw [z]
      exact ⟨_, ee, fun v q => nomatch q⟩
    · rw [List.mem_singleton.mp z]
      exact si.obj
  keep := fun i h h' st k => by
    obtain ⟨⟨was, ee⟩, si, ne⟩ := st
    exact ⟨⟨was, k e (by simp) _ ee⟩, si.keep fun o g => k it (by simp) o g, ne⟩
  item := by
    intro X hP hw hK _ i pins s σ H E I fp st go
    subst hP hw hK
    obtain ⟨⟨was, ee⟩, si, ne⟩ := st
    obtain ⟨xs, x, hq, hx⟩ := go
    obtain ⟨its, rv, so, _⟩ := sOf I hq
    obtain ⟨u, hu, ru⟩ := rv.get hx
    have le := Heap.lt_size ee
    have li := si.lt
    refine en_item ee si so (x := u) (by simpa using hu) ne fun h1 eo si1 gt kp => ⟨_, rfl, wpAny_letOwnedTupleGo_enum (s := { s with heap := h1, toks := s.toks + 1 }) eo fun h2 e2 c2 => ?_⟩
    have g2 : h2.get? s.heap.objs.size = some (seqObj "tuple" #[.int i s.toks, u] 0) := (c2.2 _ (Nat.ne_of_gt le)).trans gt
    have new : ObjOk X.prog X.w (upd H s.heap.objs.size (.tup [.int (i : Nat), x])) h2 s.heap.objs.size (.tup [.int (i : Nat), x]) :=
      ⟨by show 2 ≤ sizeLine; decide, [.int i s.toks, u], .cons ⟨_, rfl⟩ (.cons ru .nil), ⟨_, g2, rfl, _, rfl⟩⟩
    have I2 : Inv X pins σ (upd H s.heap.objs.size (.tup [.int (i : Nat), x])) { s with heap := h2, toks := s.toks + 1 } :=
      I.turnedNew (ch := [e, it]) (fun c o hc g => (c2.2 c fun z => hc (by simp [z])).trans (kp c o (fun z => hc (by simp [z])) (fun z => hc (by simp [z])) g)) fp (Nat.le_refl _) new
    refine ⟨.ref s.heap.objs.size, _, I2, rfl, ⟨_, x, rfl, I.hok.fresh (Nat.le_refl _), rfl, fun zs hz => by rw [sInj I hz hq]; exact hx⟩, ⟨⟨u, ?_⟩, si1.but c2 ne.symm, ne⟩, fun c hc => ?_⟩
    · rw [show ((i + 1 : Nat) : Int) = (i : Int) + 1 by omega]
      exact e2
    · rw [upd_ne (by rcases List.mem_cons.mp hc with z | z <;> first | (rw [z]; exact Nat.ne_of_lt le) | (rw [List.mem_singleton.mp z]; exact Nat.ne_of_lt li))]
      exact (fp c hc).1
  done := by
    intro X hP hw hK hcalm i pins s σ H E I fp st stop
    subst hP hw hK
    obtain ⟨⟨was, ee⟩, si, ne⟩ := st
    obtain ⟨xs, hq, hx⟩ := stop
    obtain ⟨its, rv, so, _⟩ := sOf I hq
    obtain ⟨f0, f1, f2, f3, f4, f5⟩ := fp it (by simp)
    have hl := rv.length
    exact en_end (I.ok.hd hcalm) ee si so (by simp; omega) fun h1 k1 => ⟨rfl, I.turned (t' := s.toks) (fun c o hc g => k1 c o hc g) f0 f1 f3 f4 f5⟩
  self := fun A i s Q E st q => by
    obtain ⟨⟨_, ee⟩, _⟩ := st
    exact wpAny_pyIter_enum ee q
def iEnS (K : PySem.W.Frag) (ta : TA) : TI := fun σ H R => ta σ H fun vs H1 => ∃ b a xs, vs = [.ref a] ∧ SqS b K H1 a xs ∧ R (IteS b K a) H1
theorem pi_enS {X : Cx} {e : Expr} {ta : TA} {p pos tpos : Pos} {elts : List Expr} {kk : Nat} (hg : Gl X "enumerate") (hm : X.mg "enumerate" = none) (ha : PA X [e] ta) (hs : starEach [e] X.env = [(false, eval e X.env)] := by rfl) :
    PI X (.Tuple elts kk tpos) (.Call (.Name "enumerate" p) [e] [] pos) (iEnS X.K ta) := by
  refine ⟨fun pins s σ H R I h => Call_ (ld_blt I hg hm boot_enumerate (PyProof.Rows.callWith_type1 (thn (ha.run pos pins s σ H _ I h) fun us s1 ⟨vs, H1, I1, r1, q1⟩ => ?_) hs rfl))⟩
  obtain ⟨b, a, xs, rfl, hq, q⟩ := q1
  obtain ⟨u, rfl, ru⟩ := vals1 r1
  cases ru
  obtain ⟨its, rv, so, _⟩ := sOf I1 hq
  refine call_en so fun h1 ee si kp => wpAny_pyIter_enum ee ?_
  have I2 : Inv X pins σ H1 { s1 with heap := h1 } := I1.kept (t' := s1.toks) kp
  refine ⟨s1.heap.objs.size + 1, [s1.heap.objs.size + 1, s1.heap.objs.size], _, _, H1, rfl, I2, turn_enS b a (s1.heap.objs.size + 1) s1.heap.objs.size, ⟨⟨.none, ee⟩, si, Nat.succ_ne_self _⟩, fun c hc => ?_, q⟩
  have le : s1.heap.objs.size ≤ c := by
    rcases List.mem_cons.mp hc with z | z
    · rw [z]
      exact Nat.le_succ _
    · rw [List.mem_singleton.mp z]
      exact Nat.le_refl _
  exact I1.fpOk le (I1.hok.fresh le)
/-! ### zip -/
section
variable {prog : Program} {w : World} {A : Around} {E : Value → Shared → Prop} {s : Shared} {b c : Bool} {z TI TO i1 i2 l1 l2 : Addr} {k1 k2 : Nat} {xs ys : Array Value} {x y u v : Value}
/-- what stays over a turn -/
def Kept (z TO i1 i2 : Addr) (h h' : Heap) : Prop := ∀ d o, d ≠ z → d ≠ TO → d ≠ i1 → d ≠ i2 → h.get? d = some o → h'.get? d = some o
theorem zw_item {Q : Option Value → Shared → Prop} (D : ZipApart z TI TO i1 i2 l1 l2) (zz : IsZip s.heap z TI TO .none) (ti : IsPair s.heap TI (.ref i1) (.ref i2)) (to : IsPair s.heap TO u v) (s1 : SIt b s.heap i1 l1 k1) (s2 : SIt c s.heap i2 l2 k2)
    (o1 : SOf b s.heap l1 xs) (o2 : SOf c s.heap l2 ys) (ex : xs[k1]? = some x) (ey : ys[k2]? = some y)
    (q : ∀ h', IsZip h' z TI TO (rawInt s.heap.objs.size) → IsPair h' TO x y → SIt b h' i1 l1 (k1 + 1) → SIt c h' i2 l2 (k2 + 1) → IsPair h' s.heap.objs.size x y → Kept z TO i1 i2 s.heap h' → Q (some (.ref s.heap.objs.size)) { s with heap := h' }) :
    wpAny (model prog w) A (pyNext (.ref z)) Q E s := by
  have ty : s.TypeIs (.ref z) "zip" := ⟨_, zz, rfl⟩
  unfold pyNext
  refine wpAny_bind (wpAny_attempt (wpAny_callSpecial?_slot (name := Str.ofString "__next__") ty F.slot_zip_next (wpAny_call_entry F.slot_zip_next ty F.entry_zip_next ?_ (F.args_zip_next_1 _))))
  show wpAny _ _ (field (.ref z) 2 >>= _) _ _ _
  refine wpAny_bind (wpAny_field zz rfl (x := .bool false) rfl ?_)
  show wpAny _ _ (field (.ref z) 3 >>= _) _ _ _
  refine wpAny_bind (wpAny_field zz rfl (x := .ref TI) rfl (wpAny_bind (wpAny_seqItems ti rfl ?_)))
  show wpAny _ _ (Builtin.SmallTypes.ownedTupleIsFree (.ref z) >>= _) _ _ _
  refine wpAny_bind ?_
  unfold Builtin.SmallTypes.ownedTupleIsFree
  refine wpAny_bind (wpAny_field zz rfl (x := .none) rfl (wpAny_pure ?_))
  simp only [if_true]
  refine wpAny_bind (wpAny_rule (wpAny_bind (wpAny_field zz rfl (x := .ref TO) rfl (wpAny_bind (wpAny_setField_rec zz (by simp) fun h1 z1 c1 => ?_)))))
  have z1' : IsZip h1 z TI TO .ellipsis := z1
  refine wpAny_bind ?_
  simp only [List.zipIdx_cons, List.zipIdx_nil, List.forIn_cons, List.forIn_nil]
  refine wpAny_bind (wpAny_bind (wpAny_onRaise ?_))
  show wpAny _ _ (Builtin.SmallTypes.nextOf (.ref i1) >>= _) _ _ _
  refine wpAny_bind (s_item (s1.but c1 D.i1z) (o1.but c1 D.l1z) ex fun h2 t2 c2 => wpAny_pure ?_)
  have to2 : IsPair h2 TO u v := (c2.2 _ D.TOi1).trans ((c1.2 _ D.TOz).trans to)
  refine wpAny_bind (wpAny_seqItems to2 rfl (wpAny_bind (wpAny_updateSeq_pair to2 fun h3 to3 c3 => wpAny_bind (wpAny_letGo (wpAny_pure ?_)))))
  have to3' : IsPair h3 TO x v := to3
  refine wpAny_bind (wpAny_bind (wpAny_onRaise ?_))
  show wpAny _ _ (Builtin.SmallTypes.nextOf (.ref i2) >>= _) _ _ _
  refine wpAny_bind (s_item (((s2.but c1 D.i2z).but c2 D.i12.symm).but c3 D.TOi2.symm) (((o2.but c1 D.l2z).but c2 D.l2i1).but c3 D.l2TO) ey fun h4 t4 c4 => wpAny_pure ?_)
  have to4 : IsPair h4 TO x v := (c4.2 _ D.TOi2).trans to3'
  refine wpAny_bind (wpAny_seqItems to4 rfl (wpAny_bind (wpAny_updateSeq_pair to4 fun h5 to5 c5 => wpAny_bind (wpAny_letGo (wpAny_pure (wpAny_pure ?_))))))
  have to5' : IsPair h5 TO x y := to5
  have sz5 : h5.objs.size = s.heap.objs.size := c5.1.trans (c4.1.trans (c3.1.trans (c2.1.trans c1.1)))
  have z5 : IsZip h5 z TI TO .ellipsis := (c5.2 _ D.TOz.symm).trans ((c4.2 _ D.i2z.symm).trans ((c3.2 _ D.TOz.symm).trans ((c2.2 _ D.i1z.symm).trans z1')))
  have zl : z < h5.objs.size := Heap.lt_size z5
  have s15 : SIt b h5 i1 l1 (k1 + 1) := ((t2.but c3 D.TOi1.symm).but c4 D.i12).but c5 D.TOi1.symm
  have s25 : SIt c h5 i2 l2 (k2 + 1) := t4.but c5 D.TOi2.symm
  refine wpAny_bind (wpAny_seqItems to5' rfl (wpAny_bind (wpAny_newTuple ?_)))
  show wpAny _ _ (Builtin.SmallTypes.ownedTupleHandOut (.ref z) (.ref h5.objs.size) >>= _) _ _ _
  refine wpAny_bind ?_
  unfold Builtin.SmallTypes.ownedTupleHandOut
  have z6 : IsZip (h5.push (seqObj "tuple" #[x, y] 0)) z TI TO .ellipsis := Heap.get?_push_of_some _ z5
  refine wpAny_bind (wpAny_setField_rec z6 (by simp) fun h7 z7 c7 => ?_)
  have z7' : IsZip h7 z TI TO (rawInt h5.objs.size) := z7
  refine wpAny_setField_rec z7' (by simp) fun h8 z8 c8 => ?_
  have z8' : IsZip h8 z TI TO (rawInt h5.objs.size) := z8
  have up : ∀ d o, d ≠ z → h5.get? d = some o → h8.get? d = some o := fun d o n gd => (c8.2 d n).trans ((c7.2 d n).trans (Heap.get?_push_of_some _ gd))
  have tn : IsPair h8 h5.objs.size x y := (c8.2 _ (Nat.ne_of_gt zl)).trans ((c7.2 _ (Nat.ne_of_gt zl)).trans (Heap.get?_push_size _ rfl))
  refine wpAny_pure ⟨_, rfl, wpAny_pure ?_⟩
  show Q (some (.ref h5.objs.size)) _
  rw [sz5] at z8' tn ⊢
  exact q h8 z8' (up _ _ D.TOz to5') (s15.keep fun o g => up _ o D.i1z g) (s25.keep fun o g => up _ o D.i2z g) tn fun d o n1 n2 n3 n4 g => up d o n1 ((c5.2 d n2).trans ((c4.2 d n4).trans ((c3.2 d n2).trans ((c2.2 d n3).trans ((c1.2 d n1).trans g)))))
theorem zw_end {Q : Option Value → Shared → Prop} (hh : A.handled = none) (D : ZipApart z TI TO i1 i2 l1 l2) (zz : IsZip s.heap z TI TO .none) (ti : IsPair s.heap TI (.ref i1) (.ref i2)) (to : IsPair s.heap TO u v) (s1 : SIt b s.heap i1 l1 k1) (s2 : SIt c s.heap i2 l2 k2)
    (o1 : SOf b s.heap l1 xs) (o2 : SOf c s.heap l2 ys) (ee : xs[k1]? = none ∨ ys[k2]? = none) (q : ∀ h', Kept z TO i1 i2 s.heap h' → Q none { s with heap := h' }) : wpAny (model prog w) A (pyNext (.ref z)) Q E s := by
  have ty : s.TypeIs (.ref z) "zip" := ⟨_, zz, rfl⟩
  have stop : ∀ (h' : Heap) (e : Addr), Kept z TO i1 i2 s.heap h' → (∃ o, h'.get? e = some o ∧ o.cls = .type "StopIteration") → wpAny (model prog w) A (isInstance (.ref e) (.type "StopIteration") >>= fun r => if r = true then (pure none : Sem (Option Value)) else throw (.ref e)) Q E { s with heap := h' } := fun h' e kp ⟨o, g, cl⟩ =>
    wpAny_bind (wpAny_isInstance (T := "StopIteration") (b := true) ⟨o, g, cl⟩ isSubtype_stop (wpAny_pure (q _ kp)))
  unfold pyNext
  refine wpAny_bind (wpAny_attempt (wpAny_callSpecial?_slot (name := Str.ofString "__next__") ty F.slot_zip_next (wpAny_call_entry F.slot_zip_next ty F.entry_zip_next ?_ (F.args_zip_next_1 _))))
  show wpAny _ _ (field (.ref z) 2 >>= _) _ _ _
  refine wpAny_bind (wpAny_field zz rfl (x := .bool false) rfl ?_)
  show wpAny _ _ (field (.ref z) 3 >>= _) _ _ _
  refine wpAny_bind (wpAny_field zz rfl (x := .ref TI) rfl (wpAny_bind (wpAny_seqItems ti rfl ?_)))
  show wpAny _ _ (Builtin.SmallTypes.ownedTupleIsFree (.ref z) >>= _) _ _ _
  refine wpAny_bind ?_
  unfold Builtin.SmallTypes.ownedTupleIsFree
  refine wpAny_bind (wpAny_field zz rfl (x := .none) rfl (wpAny_pure ?_))
  simp only [if_true]
  refine wpAny_bind (wpAny_rule (wpAny_bind (wpAny_field zz rfl (x := .ref TO) rfl (wpAny_bind (wpAny_setField_rec zz (by simp) fun h1 z1 c1 => ?_)))))
  have z1' : IsZip h1 z TI TO .ellipsis := z1
  refine wpAny_bind ?_
  simp only [List.zipIdx_cons, List.zipIdx_nil, List.forIn_cons, List.forIn_nil]
  refine wpAny_bind (wpAny_bind (wpAny_onRaise ?_))
  show wpAny _ _ (Builtin.SmallTypes.nextOf (.ref i1) >>= _) _ _ _
  cases ex : xs[k1]? with
  | none =>
    refine wpAny_bind (s_end hh (s1.but c1 D.i1z) (o1.but c1 D.l1z) ex fun h2 e k2' ⟨oe, ge, ce⟩ => ?_)
    have z2 : IsZip h2 z TI TO .ellipsis := k2' _ _ D.i1z.symm z1'
    have ez : e ≠ z := fun r => by
      rw [r, z2] at ge
      cases ge
      simp at ce
    refine wpAny_setField_rec z2 (by simp) fun h3 _ c3 => stop h3 e (fun d o n1 _ n3 _ g => (c3.2 d n1).trans (k2' d o n3 ((c1.2 d n1).trans g))) ⟨oe, (c3.2 e ez).trans ge, ce⟩
  | some x =>
    have ey : ys[k2]? = none := by
      rcases ee with r | r
      · rw [ex] at r
        cases r
      · exact r
    refine wpAny_bind (s_item (s1.but c1 D.i1z) (o1.but c1 D.l1z) ex fun h2 t2 c2 => wpAny_pure ?_)
    have to2 : IsPair h2 TO u v := (c2.2 _ D.TOi1).trans ((c1.2 _ D.TOz).trans to)
    refine wpAny_bind (wpAny_seqItems to2 rfl (wpAny_bind (wpAny_updateSeq_pair to2 fun h3 to3 c3 => wpAny_bind (wpAny_letGo (wpAny_pure ?_)))))
    refine wpAny_bind (wpAny_bind (wpAny_onRaise ?_))
    show wpAny _ _ (Builtin.SmallTypes.nextOf (.ref i2) >>= _) _ _ _
    refine wpAny_bind (s_end hh (((s2.but c1 D.i2z).but c2 D.i12.symm).but c3 D.TOi2.symm) (((o2.but c1 D.l2z).but c2 D.l2i1).but c3 D.l2TO) ey fun h4 e k4 ⟨oe, ge, ce⟩ => ?_)
    have z4 : IsZip h4 z TI TO .ellipsis := k4 _ _ D.i2z.symm ((c3.2 _ D.TOz.symm).trans ((c2.2 _ D.i1z.symm).trans z1'))
    have ez : e ≠ z := fun r => by
      rw [r, z4] at ge
      cases ge
      simp at ce
    refine wpAny_setField_rec z4 (by simp) fun h5 _ c5 => stop h5 e (fun d o n1 n2 n3 n4 g => (c5.2 d n1).trans (k4 d o n4 ((c3.2 d n2).trans ((c2.2 d n3).trans ((c1.2 d n1).trans g))))) ⟨oe, (c5.2 e ez).trans ge, ce⟩
end
/-- an iterator at its beginning -/
def itO (b : Bool) (l : Addr) : Obj := { cls := .type (match b with | false => "list_iterator" | true => "tuple_iterator"), data := .fields #[.ref l, .int 0 0] }
theorem itO_at {b : Bool} {h : Heap} {a l : Addr} (g : h.get? a = some (itO b l)) : SIt b h a l 0 := by
  cases b <;> exact ⟨_, g, rfl, rfl⟩
def zh3 (b c : Bool) (h : Heap) (l m : Addr) : Heap := ((h.push (itO b l)).push (itO c m)).push (seqObj "tuple" #[.ref h.objs.size, .ref (h.objs.size + 1)] 0)
def zh5 (b c : Bool) (h : Heap) (l m : Addr) : Heap := ((zh3 b c h l m).push (seqObj "tuple" #[.none, .none] 0)).push { cls := .type "zip", data := .fields #[.none, .bool false, .bool false, .ref (h.objs.size + 2), .ref (h.objs.size + 3)] }
theorem new_zip (b c : Bool) (l m : Addr) (xs ys : Array Value) :
    Meets (Builtin.«zip.__new__» ⟨[.type "zip", .ref l, .ref m], []⟩) (fun _ R s => SOf b s.heap l xs ∧ SOf c s.heap m ys ∧ R (.ok (.ret (.ref (s.heap.objs.size + 4)))) { s with heap := zh5 b c s.heap l m }) :=
  .of_wp fun prog w A R s ⟨o1, o2, hR⟩ => by
    obtain ⟨h, g, d, tk, os⟩ := s
    have sb := sub_zip
    have p1 : (h.push (itO b l)).objs.size = h.objs.size + 1 := Heap.size_push ..
    have p2 : ((h.push (itO b l)).push (itO c m)).objs.size = h.objs.size + 2 := by rw [Heap.size_push, p1]
    have p3 : (zh3 b c h l m).objs.size = h.objs.size + 3 := (Heap.size_push ..).trans (by rw [p2])
    have p4 : ((zh3 b c h l m).push (seqObj "tuple" #[.none, .none] 0)).objs.size = h.objs.size + 4 := (Heap.size_push ..).trans (by rw [p3])
    have o2' : SOf c (h.push (itO b l)) m ys := o2.keep fun o gm => Heap.get?_push_of_some _ gm
    unfold zh5 at hR
    rw [← p4, ← p3, ← p2] at hR
    unfold zh3 at hR
    rw [← p1] at hR
    cases b <;> cases c
    · have t1 : Heap.IsList (Shared.heap ⟨h, g, d, tk, os⟩) l xs := o1
      have t2 : Heap.IsList (Shared.heap ⟨h.push { cls := .type "list_iterator", data := .fields #[.ref l, .int 0 0] }, g, d, tk, os⟩) m ys := o2'
      wp_walk using wpAny_pyIter_list t1, wpAny_pyIter_list t2
      exact ⟨_, rfl, hR⟩
    · have t1 : Heap.IsList (Shared.heap ⟨h, g, d, tk, os⟩) l xs := o1
      have t2 : Heap.IsTuple (Shared.heap ⟨h.push { cls := .type "list_iterator", data := .fields #[.ref l, .int 0 0] }, g, d, tk, os⟩) m ys := o2'
      wp_walk using wpAny_pyIter_list t1, wpAny_pyIter_tuple t2
      exact ⟨_, rfl, hR⟩
    · have t1 : Heap.IsTuple (Shared.heap ⟨h, g, d, tk, os⟩) l xs := o1
      have t2 : Heap.IsList (Shared.heap ⟨h.push { cls := .type "tuple_iterator", data := .fields #[.ref l, .int 0 0] }, g, d, tk, os⟩) m ys := o2'
      wp_walk using wpAny_pyIter_tuple t1, wpAny_pyIter_list t2
      exact ⟨_, rfl, hR⟩
    · have t1 : Heap.IsTuple (Shared.heap ⟨h, g, d, tk, os⟩) l xs := o1
      have t2 : Heap.IsTuple (Shared.heap ⟨h.push { cls := .type "tuple_iterator", data := .fields #[.ref l, .int 0 0] }, g, d, tk, os⟩) m ys := o2'
      wp_walk using wpAny_pyIter_tuple t1, wpAny_pyIter_tuple t2
      exact ⟨_, rfl, hR⟩
section
variable {prog : Program} {w : World} {A : Around} {E : Value → Shared → Prop} {s : Shared} {b c : Bool} {l m : Addr} {xs ys : Array Value}
theorem call_zw {Q : Value → Shared → Prop} (o1 : SOf b s.heap l xs) (o2 : SOf c s.heap m ys)
    (q : ∀ h', IsZip h' (s.heap.objs.size + 4) (s.heap.objs.size + 2) (s.heap.objs.size + 3) .none → IsPair h' (s.heap.objs.size + 2) (.ref s.heap.objs.size) (.ref (s.heap.objs.size + 1)) → IsPair h' (s.heap.objs.size + 3) .none .none →
      SIt b h' s.heap.objs.size l 0 → SIt c h' (s.heap.objs.size + 1) m 0 → (∀ d o, s.heap.get? d = some o → h'.get? d = some o) → Q (.ref (s.heap.objs.size + 4)) { s with heap := h' }) :
    wpAny (model prog w) A (call (.type "zip") [.ref l, .ref m]) Q E s := by
  refine callType_new F.called_zip (by decide) (F.typeCall_zip_2 _ _) (F.newCall_zip_2 _ _) (fun obj => F.args_object_init_3 obj _ _) F.entry_zip_new (new_zip b c l m xs ys) ⟨o1, o2, ?_⟩
  have p1 : (s.heap.push (itO b l)).objs.size = s.heap.objs.size + 1 := Heap.size_push ..
  have p2 : ((s.heap.push (itO b l)).push (itO c m)).objs.size = s.heap.objs.size + 2 := by rw [Heap.size_push, p1]
  have p3 : (zh3 b c s.heap l m).objs.size = s.heap.objs.size + 3 := (Heap.size_push ..).trans (by rw [p2])
  have p4 : ((zh3 b c s.heap l m).push (seqObj "tuple" #[.none, .none] 0)).objs.size = s.heap.objs.size + 4 := (Heap.size_push ..).trans (by rw [p3])
  have up1 : ∀ d o, (zh3 b c s.heap l m).get? d = some o → (zh5 b c s.heap l m).get? d = some o := fun d o g => Heap.get?_push_of_some _ (Heap.get?_push_of_some _ g)
  have up2 : ∀ d o, ((s.heap.push (itO b l)).push (itO c m)).get? d = some o → (zh5 b c s.heap l m).get? d = some o := fun d o g => up1 d o (Heap.get?_push_of_some _ g)
  have gz : IsZip (zh5 b c s.heap l m) (s.heap.objs.size + 4) (s.heap.objs.size + 2) (s.heap.objs.size + 3) .none := by
    rw [← p4]
    exact Heap.get?_push_size _ rfl
  have g3 : IsPair (zh5 b c s.heap l m) (s.heap.objs.size + 3) .none .none := by
    rw [← p3]
    exact Heap.get?_push_of_some _ (Heap.get?_push_size _ rfl)
  have g2 : IsPair (zh5 b c s.heap l m) (s.heap.objs.size + 2) (.ref s.heap.objs.size) (.ref (s.heap.objs.size + 1)) := up1 _ _ (by
    rw [← p2]
    exact Heap.get?_push_size _ rfl)
  have g1 : (zh5 b c s.heap l m).get? (s.heap.objs.size + 1) = some (itO c m) := up2 _ _ (by
    rw [← p1]
    exact Heap.get?_push_size _ rfl)
  have g0 : (zh5 b c s.heap l m).get? s.heap.objs.size = some (itO b l) := up2 _ _ (Heap.get?_push_of_some _ (Heap.get?_push_size _ rfl))
  exact ⟨⟨_, gz, rfl⟩, q _ gz g2 g3 (itO_at g0) (itO_at g1) fun d o g => up2 d o (Heap.get?_push_of_some _ (Heap.get?_push_of_some _ g))⟩
end
def ItzS (b c : Bool) (K : PySem.W.Frag) (l m : Addr) : It :=
  ⟨fun i H => ∃ (xs ys : List V) (x y : V), SqS b K H l xs ∧ SqS c K H m ys ∧ xs[i]? = some x ∧ ys[i]? = some y,
    fun i H v H' => ∃ T x y, v = .ref T ∧ H T = none ∧ H' = upd H T (.tup [x, y]) ∧ (∀ xs, SqS b K H l xs → xs[i]? = some x) ∧ ∀ ys, SqS c K H m ys → ys[i]? = some y,
    fun i H => ∃ xs ys : List V, SqS b K H l xs ∧ SqS c K H m ys ∧ (xs.length ≤ i ∨ ys.length ≤ i)⟩
def five (z TI TO i1 i2 : Addr) : List Addr := [z, TI, TO, i1, i2]
theorem five_cases {d z TI TO i1 i2 : Addr} (h : d ∈ five z TI TO i1 i2) : d = z ∨ d = TI ∨ d = TO ∨ d = i1 ∨ d = i2 := by simpa [five] using h
theorem turn_zw {P : Program} {w : World} {K : PySem.W.Frag} {elts : List Expr} {kk : Nat} {tpos : Pos} {b c : Bool} {l m z TI TO i1 i2 : Addr} (D : ZipApart z TI TO i1 i2 l m) :
    Turn P w K (.Tuple elts kk tpos) (ItzS b c K l m) (five z TI TO i1 i2) z (fun i h => IsZip h z TI TO .none ∧ IsPair h TI (.ref i1) (.ref i2) ∧ (∃ x y, IsPair h TO x y) ∧ SIt b h i1 l i ∧ SIt c h i2 m i) where
  mem := List.mem_cons_self
  obj := fun i h st d hd => by
    obtain ⟨zz, ti, ⟨x, y, to⟩, s1, s2⟩ := st
    rcases five_cases hd with e | e | e | e | e <;> rw [e]
    · exact ⟨_, zz, fun v q => nomatch q⟩
    · exact ⟨_, ti, fun v q => nomatch q⟩
    · exact ⟨_, to, fun v q => nomatch q⟩
    · exact s1.obj
    · exact s2.obj
  keep := fun i h h' st k => by
    obtain ⟨zz, ti, ⟨x, y, to⟩, s1, s2⟩ := st
    have m : ∀ d, (d = z ∨ d = TI ∨ d = TO ∨ d = i1 ∨ d = i2) → d ∈ five z TI TO i1 i2 := fun d e => by simpa [five] using e
    exact ⟨k z (m _ (by simp)) _ zz, k TI (m _ (by simp)) _ ti, ⟨x, y, k TO (m _ (by simp)) _ to⟩, s1.keep fun o g => k i1 (m _ (by simp)) o g, s2.keep fun o g => k i2 (m _ (by simp)) o g⟩
  item := by
    intro X hP hw hK _ i pins s σ H E I fp st go
    subst hP hw hK
    obtain ⟨zz, ti, ⟨x0, y0, to⟩, s1, s2⟩ := st
    obtain ⟨xs, ys, x, y, q1, q2, hx, hy⟩ := go
    obtain ⟨its, rv, o1, _⟩ := sOf I q1
    obtain ⟨jts, rw', o2, _⟩ := sOf I q2
    obtain ⟨u, hu, ru⟩ := rv.get hx
    obtain ⟨v, hv, rv2⟩ := rw'.get hy
    have zl := Heap.lt_size zz
    refine zw_item D zz ti to s1 s2 o1 o2 (x := u) (y := v) (by simpa using hu) (by simpa using hv) fun h1 z1 to1 s11 s21 g kp => ⟨_, rfl, wpAny_letOwnedTupleGo_zip (s := { s with heap := h1 }) z1 fun h2 z2 c2 => ?_⟩
    have g2 : h2.get? s.heap.objs.size = some (seqObj "tuple" #[u, v] 0) := (c2.2 _ (Nat.ne_of_gt zl)).trans g
    have new : ObjOk X.prog X.w (upd H s.heap.objs.size (.tup [x, y])) h2 s.heap.objs.size (.tup [x, y]) := ⟨by show 2 ≤ sizeLine; decide, [u, v], .cons ru (.cons rv2 .nil), ⟨_, g2, rfl, _, rfl⟩⟩
    have kp2 : ∀ d o, d ∉ five z TI TO i1 i2 → s.heap.get? d = some o → h2.get? d = some o := fun d o hd gd => by
      have n : ∀ e, (e = z ∨ e = TI ∨ e = TO ∨ e = i1 ∨ e = i2) → d ≠ e := fun e he r => hd (by rw [r]; simpa [five] using he)
      exact (c2.2 d (n z (by simp))).trans (kp d o (n z (by simp)) (n TO (by simp)) (n i1 (by simp)) (n i2 (by simp)) gd)
    have I2 : Inv X pins σ (upd H s.heap.objs.size (.tup [x, y])) { s with heap := h2 } := I.turnedNew (t' := s.toks) kp2 fp (Nat.le_refl _) new
    refine ⟨.ref s.heap.objs.size, _, I2, rfl, ⟨_, x, y, rfl, I.hok.fresh (Nat.le_refl _), rfl, fun zs hz => by rw [sInj I hz q1]; exact hx, fun zs hz => by rw [sInj I hz q2]; exact hy⟩, ⟨z2, (c2.2 _ D.TIz).trans (kp _ _ D.TIz D.TITO D.TIi1 D.TIi2 ti), ⟨u, v, (c2.2 _ D.TOz).trans to1⟩, s11.but c2 D.i1z, s21.but c2 D.i2z⟩, fun d hd => ?_⟩
    have lt : d < s.heap.objs.size := by
      rcases five_cases hd with e | e | e | e | e <;> rw [e]
      · exact zl
      · exact Heap.lt_size ti
      · exact Heap.lt_size to
      · exact s1.lt
      · exact s2.lt
    rw [upd_ne (Nat.ne_of_lt lt)]
    exact (fp d hd).1
  done := by
    intro X hP hw hK hcalm i pins s σ H E I fp st stop
    subst hP hw hK
    obtain ⟨zz, ti, ⟨x0, y0, to⟩, s1, s2⟩ := st
    obtain ⟨xs, ys, q1, q2, hend⟩ := stop
    obtain ⟨its, rv, o1, _⟩ := sOf I q1
    obtain ⟨jts, rw', o2, _⟩ := sOf I q2
    have n1 := rv.length
    have n2 := rw'.length
    have he : its.toArray[i]? = none ∨ jts.toArray[i]? = none := by
      rcases hend with e | e
      · exact .inl (by simp; omega)
      · exact .inr (by simp; omega)
    refine zw_end (I.ok.hd hcalm) D zz ti to s1 s2 o1 o2 he fun h1 kp => ⟨rfl, I.turnedL (t' := s.toks) (ch := five z TI TO i1 i2) (fun d o hd g => ?_) fp⟩
    have n : ∀ e, (e = z ∨ e = TI ∨ e = TO ∨ e = i1 ∨ e = i2) → d ≠ e := fun e he r => hd (by rw [r]; simpa [five] using he)
    exact kp d o (n z (by simp)) (n TO (by simp)) (n i1 (by simp)) (n i2 (by simp)) g
  self := fun A i s Q E st q => wpAny_pyIter_zip st.1 q
def iZw (K : PySem.W.Frag) (ta : TA) : TI := fun σ H R => ta σ H fun vs H1 => ∃ b c l m xs ys, vs = [.ref l, .ref m] ∧ SqS b K H1 l xs ∧ SqS c K H1 m ys ∧ R (ItzS b c K l m) H1
theorem pi_zw {X : Cx} {e e2 : Expr} {ta : TA} {p pos tpos : Pos} {elts : List Expr} {kk : Nat} (hg : Gl X "zip") (hm : X.mg "zip" = none) (ha : PA X [e, e2] ta) (hs : starEach [e, e2] X.env = (false, eval e X.env) :: starEach [e2] X.env := by rfl) (hpl : (backTo pos (starEach [e2] X.env)).any (·.1) = false := by rfl) :
    PI X (.Tuple elts kk tpos) (.Call (.Name "zip" p) [e, e2] [] pos) (iZw X.K ta) := by
  refine ⟨fun pins s σ H R I h => Call_ (ld_blt I hg hm PyProof.Rows.boot_zip (PyProof.Rows.callWith_type1 (thn (ha.run pos pins s σ H _ I h) fun us s1 ⟨vs, H1, I1, r1, q1⟩ => ?_) hs hpl))⟩
  obtain ⟨b, c, l, m, xs, ys, rfl, q1, q2, q⟩ := q1
  obtain ⟨u, v, rfl, ru, rv⟩ := vals2 r1
  cases ru
  cases rv
  obtain ⟨its, rv, o1, _⟩ := sOf I1 q1
  obtain ⟨jts, rw', o2, _⟩ := sOf I1 q2
  have lt : ∀ {b : Bool} {a : Addr} {zs : Array Value}, SOf b s1.heap a zs → a < s1.heap.objs.size := fun {b a zs} o => by
    cases b with
    | false =>
      obtain ⟨_, g, _⟩ := (o : s1.heap.IsList a zs)
      exact Heap.lt_size g
    | true =>
      obtain ⟨_, g, _⟩ := (o : s1.heap.IsTuple a zs)
      exact Heap.lt_size g
  refine call_zw o1 o2 fun h1 zz ti to t1 t2 kp => wpAny_pyIter_zip zz ?_
  have I2 : Inv X pins σ H1 { s1 with heap := h1 } := I1.kept (t' := s1.toks) kp
  refine ⟨s1.heap.objs.size + 4, five (s1.heap.objs.size + 4) (s1.heap.objs.size + 2) (s1.heap.objs.size + 3) s1.heap.objs.size (s1.heap.objs.size + 1), _, _, H1, rfl, I2, turn_zw (PySem.W.ktu_apart s1.heap.objs.size l m (lt o1) (lt o2)), ⟨zz, ti, ⟨_, _, to⟩, t1, t2⟩, fun d hd => ?_, q⟩
  have le : s1.heap.objs.size ≤ d := by rcases five_cases hd with e | e | e | e | e <;> rw [e] <;> first | exact Nat.le_add_right _ _ | exact Nat.le_refl _
  exact I1.fpOk le (I1.hok.fresh le)
end ZW

set_option Elab.async false
set_option linter.all false
set_option maxRecDepth 100000
set_option maxHeartbeats 4000000
/-! Zy: dict(zip(a, b)) of lists and tuples. -/
namespace ZW
open PySem PySem.Spec PyProof.Rows L2
section
variable {prog : Program} {w : World} {A : Around} {E : Value → Shared → Prop} {s : Shared} {b c : Bool} {z TI TO T i1 i2 l1 l2 : Addr} {f : Bool} {oT : Obj} {k1 k2 : Nat} {xs ys : Array Value} {x y : Value}
/-- what stays over a turn while a tuple is out -/
def KeptH (z i1 i2 : Addr) (h h' : Heap) : Prop := ∀ d o, d ≠ z → d ≠ i1 → d ≠ i2 → h.get? d = some o → h'.get? d = some o
theorem zw_item_held {Q : Option Value → Shared → Prop} (D : ZipApart z TI TO i1 i2 l1 l2) (zz : IsZipHeld s.heap z TI TO T f) (hT : s.heap.get? T = some oT) (ti : IsPair s.heap TI (.ref i1) (.ref i2)) (s1 : SIt b s.heap i1 l1 k1) (s2 : SIt c s.heap i2 l2 k2)
    (o1 : SOf b s.heap l1 xs) (o2 : SOf c s.heap l2 ys) (ex : xs[k1]? = some x) (ey : ys[k2]? = some y)
    (q : ∀ h', IsZipHeld h' z TI TO T true → SIt b h' i1 l1 (k1 + 1) → SIt c h' i2 l2 (k2 + 1) → IsPair h' s.heap.objs.size x y → KeptH z i1 i2 s.heap h' → Q (some (.ref s.heap.objs.size)) { s with heap := h' }) :
    wpAny (model prog w) A (pyNext (.ref z)) Q E s := by
  have ty : s.TypeIs (.ref z) "zip" := ⟨_, zz, rfl⟩
  unfold pyNext
  refine wpAny_bind (wpAny_attempt (wpAny_callSpecial?_slot (name := Str.ofString "__next__") ty F.slot_zip_next (wpAny_call_entry F.slot_zip_next ty F.entry_zip_next ?_ (F.args_zip_next_1 _))))
  show wpAny _ _ (field (.ref z) 2 >>= _) _ _ _
  refine wpAny_bind (wpAny_field zz rfl (x := .bool false) rfl ?_)
  show wpAny _ _ (field (.ref z) 3 >>= _) _ _ _
  refine wpAny_bind (wpAny_field zz rfl (x := .ref TI) rfl (wpAny_bind (wpAny_seqItems ti rfl ?_)))
  show wpAny _ _ (Builtin.SmallTypes.ownedTupleIsFree (.ref z) >>= _) _ _ _
  refine wpAny_bind (wpAny_tupleHeld_zip zz hT fun h1 z1 c1 => ?_)
  simp only [Bool.false_eq_true, if_false]
  refine wpAny_bind ?_
  rw [← Array.forIn_toList]
  simp only [List.forIn_cons, List.forIn_nil]
  refine wpAny_bind (wpAny_bind (wpAny_holding ?_))
  show wpAny _ _ (Builtin.SmallTypes.nextOf (.ref i1) >>= _) _ _ _
  refine wpAny_bind (s_item (s := { s with heap := h1 }) (s1.but c1 D.i1z) (o1.but c1 D.l1z) ex fun h2 t2 c2 => wpAny_pure ?_)
  refine wpAny_pure ?_
  refine wpAny_bind (wpAny_bind (wpAny_holding ?_))
  show wpAny _ _ (Builtin.SmallTypes.nextOf (.ref i2) >>= _) _ _ _
  refine wpAny_bind (s_item (s := { s with heap := h2 }) ((s2.but c1 D.i2z).but c2 D.i12.symm) ((o2.but c1 D.l2z).but c2 D.l2i1) ey fun h3 t3 c3 => wpAny_pure ?_)
  refine wpAny_pure (wpAny_pure ?_)
  show wpAny _ _ (newTuple [x, y] >>= _) _ _ _
  refine wpAny_bind (wpAny_newTuple ?_)
  have hsz : h3.objs.size = s.heap.objs.size := c3.1.trans (c2.1.trans c1.1)
  have z3 : IsZipHeld h3 z TI TO T true := (c3.2 _ D.i2z.symm).trans ((c2.2 _ D.i1z.symm).trans z1)
  have kp : KeptH z i1 i2 s.heap h3 := fun d o n1 n2 n3 g => (c3.2 d n3).trans ((c2.2 d n2).trans ((c1.2 d n1).trans g))
  have t23 : SIt b h3 i1 l1 (k1 + 1) := t2.but c3 D.i12
  refine wpAny_pure ⟨_, rfl, wpAny_pure ?_⟩
  show Q (some (.ref h3.objs.size)) _
  have hp : IsPair (h3.push { cls := .type "tuple", data := .seq #[x, y] }) h3.objs.size x y := Heap.get?_push_size _ rfl
  rw [hsz] at hp ⊢
  exact q _ (Heap.get?_push_of_some _ z3) (t23.keep fun o e => Heap.get?_push_of_some _ e) (t3.keep fun o e => Heap.get?_push_of_some _ e) hp fun d o n1 n2 n3 g => Heap.get?_push_of_some _ (kp d o n1 n2 n3 g)
theorem zw_end_held {Q : Option Value → Shared → Prop} (hh : A.handled = none) (D : ZipApart z TI TO i1 i2 l1 l2) (zz : IsZipHeld s.heap z TI TO T f) (hT : s.heap.get? T = some oT) (ti : IsPair s.heap TI (.ref i1) (.ref i2)) (s1 : SIt b s.heap i1 l1 k1) (s2 : SIt c s.heap i2 l2 k2)
    (o1 : SOf b s.heap l1 xs) (o2 : SOf c s.heap l2 ys) (ee : xs[k1]? = none ∨ ys[k2]? = none) (q : ∀ h', KeptH z i1 i2 s.heap h' → Q none { s with heap := h' }) : wpAny (model prog w) A (pyNext (.ref z)) Q E s := by
  have ty : s.TypeIs (.ref z) "zip" := ⟨_, zz, rfl⟩
  have stop : ∀ (h' : Heap) (e : Addr), KeptH z i1 i2 s.heap h' → (∃ o, h'.get? e = some o ∧ o.cls = .type "StopIteration") → wpAny (model prog w) A (isInstance (.ref e) (.type "StopIteration") >>= fun r => if r = true then (pure none : Sem (Option Value)) else throw (.ref e)) Q E { s with heap := h' } := fun h' e kp ⟨o, g, cl⟩ =>
    wpAny_bind (wpAny_isInstance (T := "StopIteration") (b := true) ⟨o, g, cl⟩ isSubtype_stop (wpAny_pure (q _ kp)))
  unfold pyNext
  refine wpAny_bind (wpAny_attempt (wpAny_callSpecial?_slot (name := Str.ofString "__next__") ty F.slot_zip_next (wpAny_call_entry F.slot_zip_next ty F.entry_zip_next ?_ (F.args_zip_next_1 _))))
  show wpAny _ _ (field (.ref z) 2 >>= _) _ _ _
  refine wpAny_bind (wpAny_field zz rfl (x := .bool false) rfl ?_)
  show wpAny _ _ (field (.ref z) 3 >>= _) _ _ _
  refine wpAny_bind (wpAny_field zz rfl (x := .ref TI) rfl (wpAny_bind (wpAny_seqItems ti rfl ?_)))
  show wpAny _ _ (Builtin.SmallTypes.ownedTupleIsFree (.ref z) >>= _) _ _ _
  refine wpAny_bind (wpAny_tupleHeld_zip zz hT fun h1 z1 c1 => ?_)
  simp only [Bool.false_eq_true, if_false]
  refine wpAny_bind ?_
  rw [← Array.forIn_toList]
  simp only [List.forIn_cons, List.forIn_nil]
  refine wpAny_bind (wpAny_bind (wpAny_holding ?_))
  show wpAny _ _ (Builtin.SmallTypes.nextOf (.ref i1) >>= _) _ _ _
  cases ex : xs[k1]? with
  | none =>
    refine wpAny_bind (s_end (s := { s with heap := h1 }) hh (s1.but c1 D.i1z) (o1.but c1 D.l1z) ex fun h2 e k2' he => ?_)
    exact stop h2 e (fun d o n1 n2 _ g => k2' d o n2 ((c1.2 d n1).trans g)) he
  | some x =>
    have ey : ys[k2]? = none := by
      rcases ee with r | r
      · rw [ex] at r
        cases r
      · exact r
    refine wpAny_bind (s_item (s := { s with heap := h1 }) (s1.but c1 D.i1z) (o1.but c1 D.l1z) ex fun h2 t2 c2 => wpAny_pure ?_)
    refine wpAny_pure ?_
    refine wpAny_bind (wpAny_bind (wpAny_holding ?_))
    show wpAny _ _ (Builtin.SmallTypes.nextOf (.ref i2) >>= _) _ _ _
    refine wpAny_bind (s_end (s := { s with heap := h2 }) hh ((s2.but c1 D.i2z).but c2 D.i12.symm) ((o2.but c1 D.l2z).but c2 D.l2i1) ey fun h3 e k3 he => ?_)
    exact stop h3 e (fun d o n1 n2 n3 g => k3 d o n3 ((c2.2 d n2).trans ((c1.2 d n1).trans g))) he
end
section
variable {prog : Program} {w : World}
theorem SOf.lt {b : Bool} {h : Heap} {l : Addr} {xs : Array Value} (x : SOf b h l xs) : ∃ o, h.get? l = some o := by
  cases b with
  | false =>
    obtain ⟨o, g, _⟩ := (x : h.IsList l xs)
    exact ⟨o, g⟩
  | true =>
    obtain ⟨o, g, _⟩ := (x : h.IsTuple l xs)
    exact ⟨o, g⟩
theorem pairArg_zw (b c : Bool) (z TI TO i1 i2 l1 l2 : Addr) (D : ZipApart z TI TO i1 i2 l1 l2) (xs ys : Array Value) :
    PairArg prog w "zip" z [z, TI, TO, i1, i2, l1, l2] [z, TO, i1, i2] (min xs.size ys.size) (fun i k v => xs[i]? = some k ∧ ys[i]? = some v)
      (fun h => IsZip h z TI TO .none ∧ IsPair h TI (.ref i1) (.ref i2) ∧ (∃ a b, IsPair h TO a b) ∧ SIt b h i1 l1 0 ∧ SIt c h i2 l2 0 ∧ SOf b h l1 xs ∧ SOf c h l2 ys) where
  type := fun s ok => ⟨_, ok.1, rfl⟩
  notDict := by decide
  keep := fun h h' ok hk => by
    obtain ⟨hz, hTI, ⟨a, b, hTO⟩, h1, h2, hl1, hl2⟩ := ok
    exact ⟨hk _ _ hz, hk _ _ hTI, ⟨a, b, hk _ _ hTO⟩, h1.keep fun o e => hk _ o e, h2.keep fun o e => hk _ o e, hl1.keep fun o e => hk _ o e, hl2.keep fun o e => hk _ o e⟩
  there := fun h ok b hb => by
    obtain ⟨hz, hTI, ⟨a, c, hTO⟩, h1, h2, hl1, hl2⟩ := ok
    obtain ⟨o1, g1, _⟩ := h1.obj
    obtain ⟨o2, g2, _⟩ := h2.obj
    obtain ⟨o3, g3⟩ := hl1.lt
    obtain ⟨o4, g4⟩ := hl2.lt
    simp only [List.mem_cons, List.not_mem_nil, or_false] at hb
    rcases hb with rfl | rfl | rfl | rfl | rfl | rfl | rfl
    all_goals first | exact ⟨_, hz⟩ | exact ⟨_, hTI⟩ | exact ⟨_, hTO⟩ | exact ⟨_, g1⟩ | exact ⟨_, g2⟩ | exact ⟨_, g3⟩ | exact ⟨_, g4⟩
  sub := fun b hb => by simp at hb ⊢; rcases hb with rfl | rfl | rfl | rfl <;> simp
  noKeys := fun A s Q E hA ok h => getAttrOr_miss_zip ok.1 rfl rfl rfl zip_no_keys (by decide +kernel) hA h
  iter := fun A s d Q E hA ok hd hdf h => by
    obtain ⟨hz, hTI, ⟨a, e, hTO⟩, h1, h2, hl1, hl2⟩ := ok
    simp only [List.mem_cons, List.not_mem_nil, or_false, not_or] at hdf
    obtain ⟨dz, dTI, dTO, di1, di2, dl1, dl2⟩ := hdf
    refine wpAny_pyIter_zip hz (h z [z, TO, i1, i2] (fun i h => IsPair h TI (.ref i1) (.ref i2) ∧ SIt b h i1 l1 i ∧ SIt c h i2 l2 i ∧ SOf b h l1 xs ∧ SOf c h l2 ys ∧
      ((IsZip h z TI TO .none ∧ ∃ a b, IsPair h TO a b) ∨ ∃ T f oT, IsZipHeld h z TI TO T f ∧ h.get? T = some oT ∧ T ≠ z ∧ T ≠ i1 ∧ T ≠ i2 ∧ T ≠ d)) s.heap s.toks ?_
      ⟨hTI, h1, h2, hl1, hl2, .inl ⟨hz, a, e, hTO⟩⟩ (fun _ _ e => e) fun b hb => .inl hb)
    exact {
      off := fun hm => by
        simp only [List.mem_cons, List.not_mem_nil, or_false] at hm
        rcases hm with e | e | e | e
        · exact dz e
        · exact dTO e
        · exact di1 e
        · exact di2 e
      frame := fun i h₁ h₂ st hk => by
        obtain ⟨hTI, h1, h2, hl1, hl2, hz⟩ := st
        refine ⟨hk _ _ (Ne.symm dTI) hTI, h1.keep fun o e => hk _ o (Ne.symm di1) e, h2.keep fun o e => hk _ o (Ne.symm di2) e, hl1.keep fun o e => hk _ o (Ne.symm dl1) e, hl2.keep fun o e => hk _ o (Ne.symm dl2) e, ?_⟩
        rcases hz with ⟨hz, a, b, hTO⟩ | ⟨T, f, oT, hz, hT, r1, r2, r3, r4⟩
        · exact .inl ⟨hk _ _ (Ne.symm dz) hz, a, b, hk _ _ (Ne.symm dTO) hTO⟩
        · exact .inr ⟨T, f, oT, hk _ _ (Ne.symm dz) hz, hk _ _ r4 hT, r1, r2, r3, r4⟩
      item := fun i s₁ Q₁ E₁ hi st hds hQ => by
        obtain ⟨hTI, h1, h2, hl1, hl2, hz⟩ := st
        have hix : i < xs.size := Nat.lt_of_lt_of_le hi (Nat.min_le_left ..)
        have hiy : i < ys.size := Nat.lt_of_lt_of_le hi (Nat.min_le_right ..)
        have ex := Array.getElem?_eq_getElem hix
        have ey := Array.getElem?_eq_getElem hiy
        have lt : ∀ {c o}, s₁.heap.get? c = some o → s₁.heap.objs.size ≠ c := fun e => Nat.ne_of_gt (Heap.lt_size e)
        have n1 : s₁.heap.objs.size ≠ i1 := Nat.ne_of_gt h1.lt
        have n2 : s₁.heap.objs.size ≠ i2 := Nat.ne_of_gt h2.lt
        rcases hz with ⟨hz, a, e, hTO⟩ | ⟨T, f, oT, hz, hT, r1, r2, r3, r4⟩
        · refine zw_item D hz hTI hTO h1 h2 hl1 hl2 ex ey fun h' a1 a2 a3 a4 a5 hk => ?_
          exact hQ s₁.heap.objs.size _ _ h' s₁.toks ⟨ex, ey⟩ (.inl ⟨_, a5, rfl, _, rfl⟩)
            ⟨hk _ _ D.TIz D.TITO D.TIi1 D.TIi2 hTI, a3, a4, hl1.keep fun o e => hk _ o D.l1z D.l1TO D.l1i1 D.l1i2 e, hl2.keep fun o e => hk _ o D.l2z D.l2TO D.l2i1 D.l2i2 e,
              .inr ⟨s₁.heap.objs.size, false, _, a1, a5, lt hz, n1, n2, Nat.ne_of_gt hds⟩⟩
            fun c o hc e => hk c o (fun x => hc (by simp [x])) (fun x => hc (by simp [x])) (fun x => hc (by simp [x])) (fun x => hc (by simp [x])) e
        · refine zw_item_held D hz hT hTI h1 h2 hl1 hl2 ex ey fun h' a1 a3 a4 a5 hk => ?_
          exact hQ s₁.heap.objs.size _ _ h' s₁.toks ⟨ex, ey⟩ (.inl ⟨_, a5, rfl, _, rfl⟩)
            ⟨hk _ _ D.TIz D.TIi1 D.TIi2 hTI, a3, a4, hl1.keep fun o e => hk _ o D.l1z D.l1i1 D.l1i2 e, hl2.keep fun o e => hk _ o D.l2z D.l2i1 D.l2i2 e,
              .inr ⟨T, true, oT, a1, hk _ _ r1 r2 r3 hT, r1, r2, r3, r4⟩⟩
            fun c o hc e => hk c o (fun x => hc (by simp [x])) (fun x => hc (by simp [x])) (fun x => hc (by simp [x])) e
      done := fun s₁ Q₁ E₁ st hQ => by
        obtain ⟨hTI, h1, h2, hl1, hl2, hz⟩ := st
        have hend : xs[min xs.size ys.size]? = none ∨ ys[min xs.size ys.size]? = none := by
          rcases Nat.le_total xs.size ys.size with h | h
          · exact .inl (Array.getElem?_eq_none (by rw [Nat.min_eq_left h]; exact Nat.le_refl _))
          · exact .inr (Array.getElem?_eq_none (by rw [Nat.min_eq_right h]; exact Nat.le_refl _))
        rcases hz with ⟨hz, a, e, hTO⟩ | ⟨T, f, oT, hz, hT, r1, r2, r3, r4⟩
        · exact zw_end hA D hz hTI hTO h1 h2 hl1 hl2 hend fun h' hk => hQ h' s₁.toks fun c o hc e => hk c o (fun x => hc (by simp [x])) (fun x => hc (by simp [x])) (fun x => hc (by simp [x])) (fun x => hc (by simp [x])) e
        · exact zw_end_held hA D hz hT hTI h1 h2 hl1 hl2 hend fun h' hk => hQ h' s₁.toks fun c o hc e => hk c o (fun x => hc (by simp [x])) (fun x => hc (by simp [x])) (fun x => hc (by simp [x])) e }
end
/-- dict(zip(a, b)): a has texts -/
def tDictZip (K : PySem.W.Frag) (ta : TA) : TE := fun σ H Q => ta σ H fun vs H1 => ∃ (b c : Bool) (l m : Addr) (ks : List Str) (ys : List V), vs = [.ref l, .ref m] ∧ SqS b K H1 l (ks.map V.str) ∧ SqS c K H1 m ys ∧ ∀ p, H1 p = none → Q (.ref p) (upd H1 p (.dK (mergeK [] ((ks.zip ys).map fun x => (Sum.inr x.1, x.2)))))
theorem kv_zip {P : Program} {w : World} : ∀ (ks : List Str) (ys : List V) {us vs : List Value}, Vals (ks.map V.str) us → Vals ys vs →
    ∃ kvs : List (Key × Value), KV ((ks.zip ys).map fun x => ((Sum.inr x.1 : Key), x.2)) kvs ∧ kvs.length = min us.length vs.length ∧ ∀ (i : Nat) (key v : Value), us[i]? = some key ∧ vs[i]? = some v → ∃ k, kvs[i]? = some (k, v) ∧ (mixKind P w).is k key = true
  | [], ys, us, vs, h1, _ => by
    rw [List.map_nil] at h1
    cases h1
    exact ⟨[], .nil, by simp, fun i key v h => by simp at h⟩
  | k :: ks, [], us, vs, _, h2 => by
    cases h2
    exact ⟨[], .nil, by simp, fun i key v h => by simp at h⟩
  | k :: ks, y :: ys, us, vs, h1, h2 => by
    rw [List.map_cons] at h1
    cases h1 with
    | cons rk hk =>
      cases h2 with
      | cons ry hy =>
        obtain ⟨kvs, h1, h2, h3⟩ := kv_zip (P := P) (w := w) ks ys hk hy
        refine ⟨(Sum.inr k, _) :: kvs, .cons ⟨rfl, ry⟩ h1, by simp [h2], fun i key v h => ?_⟩
        cases i with
        | zero =>
          simp at h
          obtain ⟨rfl, rfl⟩ := h
          exact ⟨_, rfl, kV_is (P := P) (w := w) (k := Sum.inr k) rk⟩
        | succ i => exact h3 i key v (by simpa using h)
theorem pe_dictZip {X : Cx} {e e2 : Expr} {ta : TA} {p1 p2 q1 q2 : Pos} (calm : X.calm = true) (g1 : Gl X "dict") (m1 : X.mg "dict" = none) (g2 : Gl X "zip") (m2 : X.mg "zip" = none) (ha : PA X [e, e2] ta)
    (hs : starEach [e, e2] X.env = (false, eval e X.env) :: starEach [e2] X.env := by rfl) (hpl : (backTo q2 (starEach [e2] X.env)).any (·.1) = false := by rfl)
    (s2 : starEach [.Call (.Name "zip" p2) [e, e2] [] q2] X.env = (false, eval (.Call (.Name "zip" p2) [e, e2] [] q2) X.env) :: starEach [] X.env := by rfl) :
    PE X (.Call (.Name "dict" p1) [.Call (.Name "zip" p2) [e, e2] [] q2] [] q1) (tDictZip X.K ta) := by
  refine ⟨fun pins s σ H Q I h => ?_⟩
  refine Call_ (ld_blt I g1 m1 boot_dict (PyProof.Rows.callWith_type1 (args_cons ?_ s2) s2 rfl))
  refine Call_ (ld_blt I g2 m2 PyProof.Rows.boot_zip (PyProof.Rows.callWith_type1 (thn (ha.run q2 pins s σ H _ I h) fun us s1 ⟨vs, H1, I1, r1, q1⟩ => ?_) hs hpl))
  obtain ⟨b, c, l, m, ks, ys, rfl, hl, hm, q⟩ := q1
  obtain ⟨u, v, rfl, ru, rv⟩ := vals2 r1
  cases ru
  cases rv
  obtain ⟨its, rv1, o1, z1⟩ := sOf I1 hl
  obtain ⟨jts, rv2, o2, z2⟩ := sOf I1 hm
  refine call_zw o1 o2 fun h1 zz ti to t1 t2 kp => args_nil ?_
  have I2 : Inv X pins σ H1 { s1 with heap := h1 } := I1.kept (t' := s1.toks) kp
  obtain ⟨ol, gl⟩ := o1.lt
  obtain ⟨om, gm⟩ := o2.lt
  have D := PySem.W.ktu_apart s1.heap.objs.size l m (Heap.lt_size gl) (Heap.lt_size gm)
  obtain ⟨kvs, k1, k2, k3⟩ := kv_zip (P := X.prog) (w := X.w) ks ys rv1 rv2
  have hlen : min its.toArray.size jts.toArray.size = min its.length jts.length := by simp
  refine call_dict_pairs (s := { s1 with heap := h1 }) (knd := mixKind X.prog X.w) (kvs := kvs) (pairArg_zw b c _ _ _ _ _ l m D its.toArray jts.toArray) (I2.ok.hd calm) ⟨zz, ti, ⟨_, _, to⟩, t1, t2, o1.keep fun o e => kp _ o e, o2.keep fun o e => kp _ o e⟩ ⟨by rw [hlen]; exact k2, fun i key v h => k3 i key v (by simpa using h)⟩ ?_ fun h' tk hd' k => ?_
  · have := rv1.length
    rw [hlen]
    refine Nat.le_trans (Nat.min_le_left ..) ?_
    rw [← this]
    exact z1
  · have le1 : s1.heap.objs.size ≤ h1.objs.size := Nat.le_of_lt (Nat.lt_of_le_of_lt (Nat.le_add_right _ 4) (Heap.lt_size zz))
    have hmx : (h1.objs.size == sysModules) = false := beq_eq_false_iff_ne.mpr (Nat.ne_of_gt I2.big)
    have hsz : (mergeK [] ((ks.zip ys).map fun x => ((Sum.inr x.1 : Key), x.2))).length ≤ sizeLine := by
      refine Nat.le_trans (length_mergeK _ []) ?_
      rw [List.length_nil, Nat.zero_add, List.length_map, List.length_zip]
      refine Nat.le_trans (Nat.min_le_left ..) ?_
      have := z1
      rw [List.length_map] at this
      exact this
    have fresh : ∀ d, s1.heap.objs.size ≤ d → s1.heap.get? d = none := fun d hd => by
      cases e : s1.heap.get? d with
      | none => rfl
      | some o => exact absurd (Heap.lt_size e) (Nat.not_lt.mpr hd)
    have keep : ∀ d o, s1.heap.get? d = some o → h'.get? d = some o := fun d o g => by
      refine k d o (fun hm => ?_) (kp d o g)
      have hlt := Heap.lt_size g
      simp only [List.mem_cons, List.not_mem_nil, or_false] at hm
      rcases hm with e | e | e | e <;> rw [e] at hlt <;> first | exact absurd hlt (Nat.not_lt.mpr (Nat.le_add_right _ _)) | exact absurd hlt (Nat.lt_irrefl _)
    refine ⟨.ref h1.objs.size, _, I1.laid (t' := tk) keep le1 (show ObjOk X.prog X.w (upd H1 h1.objs.size (.dK (mergeK [] ((ks.zip ys).map fun x => ((Sum.inr x.1 : Key), x.2))))) h' _ (.dK _) from ⟨hsz, hmx, merged [] kvs, KV.merge k1 .nil, hd'⟩), rfl, q _ (I1.hok.fresh le1)⟩
end ZW

set_option Elab.async false
set_option linter.all false
set_option maxRecDepth 100000
set_option maxHeartbeats 4000000
/-! Zv: short steps for lists or tuples: enumerate, zip, subscripts; a list or a dict by a number. -/
namespace Z
open PySem PySem.Spec PyProof.Rows L2 ZW
open Evl (Ex ex_l ex_t ex_rd sq_of st_of fresh_back RetL RetV)
section
variable {K : PySem.W.Frag} {b c : Bool} {a m : Addr} {xs ys : List V}
theorem walk_enS : Walk (IteS b K a) xs.length (fun H => SqS b K H a xs) (YPair (fun i => some (.int (i : Nat))) (fun i => xs[i]?)) := by
  refine ⟨fun i _ hi q => ⟨xs, xs[i], q, List.getElem?_eq_getElem hi⟩, fun _ q => ⟨xs, q, Nat.le_refl _⟩, fun i H v H' _ q y => ?_⟩
  obtain ⟨T, x, h1, h2, h3, h4⟩ := y
  exact ⟨T, _, x, h1, h2, h3, rfl, h4 xs q⟩
theorem walk_zw {n : Nat} (hn : n = min xs.length ys.length) : Walk (ItzS b c K a m) n (fun H => SqS b K H a xs ∧ SqS c K H m ys) (YPair (fun i => xs[i]?) (fun i => ys[i]?)) := by
  refine ⟨fun i _ hi q => ⟨xs, ys, xs[i]'(by omega), ys[i]'(by omega), q.1, q.2, List.getElem?_eq_getElem (by omega), List.getElem?_eq_getElem (by omega)⟩, fun _ q => ⟨xs, ys, q.1, q.2, by omega⟩, fun i H v H' _ q y => ?_⟩
  obtain ⟨T, x, y, h1, h2, h3, h4, h5⟩ := y
  exact ⟨T, x, y, h1, h2, h3, h4 xs q.1, h5 ys q.2⟩
theorem sqs_l {H : Hp} (h : SqL K H a xs) : SqS false K H a xs := h
theorem sqs_t {H : Hp} (h : SqT K H a xs) : SqS true K H a xs := h
theorem ex_s {H H' : Hp} (e : Ex H H') (h : SqS b K H a xs) : SqS b K H' a xs := by
  cases b with
  | false => exact ex_l e h
  | true => exact ex_t e h
end
def FEs (K : PySem.W.Frag) (g : TG) (tb : TS) (D : Ends) (σ : L2.St) (vs : List V) (H1 : Hp) : Prop := ∃ b a xs, vs = [.ref a] ∧ SqS b K H1 a xs ∧ FW (IteS b K a) g tb D σ H1
def FZw (K : PySem.W.Frag) (g : TG) (tb : TS) (D : Ends) (σ : L2.St) (vs : List V) (H1 : Hp) : Prop := ∃ b c l m xs ys, vs = [.ref l, .ref m] ∧ SqS b K H1 l xs ∧ SqS c K H1 m ys ∧ FW (ItzS b c K l m) g tb D σ H1
def CEs (K : PySem.W.Frag) (g : TG) (tt : TT) (te : TE) (vs : List Nat) (σ : L2.St) (xs : List V) (H1 : Hp) (Q : VK) : Prop := ∃ b a ys, xs = [.ref a] ∧ SqS b K H1 a ys ∧ CW (IteS b K a) g tt te vs σ H1 Q
def CZw (K : PySem.W.Frag) (g : TG) (tt : TT) (te : TE) (vs : List Nat) (σ : L2.St) (xs : List V) (H1 : Hp) (Q : VK) : Prop := ∃ b c l m ys zs, xs = [.ref l, .ref m] ∧ SqS b K H1 l ys ∧ SqS c K H1 m zs ∧ CW (ItzS b c K l m) g tt te vs σ H1 Q
section
variable {K : PySem.W.Frag} {σ : L2.St} {H : Hp} {Q : VK} {D : Ends} {g : TG} {tb : TS} {te tl : TE} {tt : TT} {ta : TA} {vs : List Nat} {a m : Addr} {xs ys : List V} {n j k : Nat} {b c : Bool}
theorem z_fes (q : ta σ H fun x H1 => FEs K g tb D σ x H1) : tFor (iEnS K ta) g tb D σ H := q
theorem z_fzw (q : ta σ H fun x H1 => FZw K g tb D σ x H1) : tFor (iZw K ta) g tb D σ H := q
theorem z_ces (q : ta σ H fun x H1 => CEs K g tt te vs σ x H1 Q) : tLc (iEnS K ta) g tt te vs σ H Q := q
theorem z_czw (q : ta σ H fun x H1 => CZw K g tt te vs σ x H1 Q) : tLc (iZw K ta) g tt te vs σ H Q := q
theorem z_FEs (hx : SqS b K H a xs) (Pv : Nat → L2.St → Hp → Prop) (h0 : Pv 0 σ H) (hG : ∀ i σ H, i ≤ xs.length → Pv i σ H → SqS b K H a xs)
    (hs : ∀ i x p σ H H', i < xs.length → xs[i]? = some x → Pv i σ H → Ex H H' → H p = none → H' = upd H p (.tup [.int (i : Nat), x]) → g (.ref p) σ H' fun σ2 H2 => tb { D with nx := Pv (i + 1), ct := Pv (i + 1), bk := D.nx } σ2 H2) (hd : ∀ σ H, Pv xs.length σ H → D.nx σ H) : FEs K g tb D σ [.ref a] H :=
  ⟨b, a, xs, rfl, hx, for_it walk_enS Pv h0 hG (fun i x σ H H' hi p y => by
    obtain ⟨T, u, v, rfl, e1, rfl, e3, e4⟩ := y
    cases e3
    exact hs i v T σ _ _ hi e4 p (Ex.new e1) e1 rfl) hd⟩
theorem z_FZw (hn : n = min xs.length ys.length) (hx : SqS b K H a xs) (hy : SqS c K H m ys) (Pv : Nat → L2.St → Hp → Prop) (h0 : Pv 0 σ H) (hG : ∀ i σ H, i ≤ n → Pv i σ H → SqS b K H a xs ∧ SqS c K H m ys)
    (hs : ∀ i x y p σ H H', i < n → xs[i]? = some x → ys[i]? = some y → Pv i σ H → Ex H H' → H p = none → H' = upd H p (.tup [x, y]) → g (.ref p) σ H' fun σ2 H2 => tb { D with nx := Pv (i + 1), ct := Pv (i + 1), bk := D.nx } σ2 H2) (hd : ∀ σ H, Pv n σ H → D.nx σ H) : FZw K g tb D σ [.ref a, .ref m] H :=
  ⟨b, c, a, m, xs, ys, rfl, hx, hy, for_it (walk_zw hn) Pv h0 hG (fun i x σ H H' hi p y => by
    obtain ⟨T, u, v, rfl, e1, rfl, e3, e4⟩ := y
    exact hs i u v T σ _ _ hi e3 e4 p (Ex.new e1) e1 rfl) hd⟩
/-- things without objects of their own -/
theorem z_CEs (hx : SqS b K H a xs) (hz : xs.length ≤ 40000) (f : Nat → Bool) (v : Nat → V) (hw : ∀ x y, wipe (((wipe σ vs).set k (some x)).set j (some y)) vs = wipe σ vs)
    (ht : ∀ i x H', i < xs.length → xs[i]? = some x → Ex H H' → Evl.EvT tt (((wipe σ vs).set k (some (.int (i : Nat)))).set j (some x)) H' (f i)) (he : ∀ i x H', i < xs.length → xs[i]? = some x → Ex H H' → f i = true → Evl.Ev te (((wipe σ vs).set k (some (.int (i : Nat)))).set j (some x)) H' (v i))
    (q : ∀ p H2, H p = none → Ex H H2 → H2 p = some (.lst (Evl.given xs.length f v)) → Q (.ref p) H2) : CEs K (gTup K 2 (gCons (gName k) (gCons (gName j) gNil))) tt te vs σ [.ref a] H Q :=
  ⟨b, a, xs, rfl, hx, fun Dl hD => lc_it walk_enS (Evl.Cw H f v Dl) ⟨hD, Ex.new hD, upd_same⟩ (fun _ _ _ p => ex_s p.2.1 hx) (fun i x H1 H2 hi p y => by
    obtain ⟨T, u, x', rfl, e1, rfl, e3, e4⟩ := y
    cases e3
    refine z_gtup2 (st_of upd_same) ⟨hw _ _, ?_⟩
    have p2 : Evl.Cw H f v Dl i (upd H1 T (.tup [.int (i : Nat), x'])) := ⟨p.1, p.2.1.trans (Ex.new e1), Ex.new e1 _ _ p.2.2⟩
    exact Evl.cw_turn p2 (by omega) (ht i x' H hi e4 (Ex.refl H)) fun hf => he i x' H hi e4 (Ex.refl H) hf) (fun H' p => q Dl H' p.1 p.2.1 p.2.2)⟩
theorem z_CZw (hn : n = min xs.length ys.length) (hx : SqS b K H a xs) (hy : SqS c K H m ys) (hz : n ≤ 40000) (f : Nat → Bool) (v : Nat → V) (hw : ∀ x y, wipe (((wipe σ vs).set k (some x)).set j (some y)) vs = wipe σ vs)
    (ht : ∀ i x y H', i < n → xs[i]? = some x → ys[i]? = some y → Ex H H' → Evl.EvT tt (((wipe σ vs).set k (some x)).set j (some y)) H' (f i)) (he : ∀ i x y H', i < n → xs[i]? = some x → ys[i]? = some y → Ex H H' → f i = true → Evl.Ev te (((wipe σ vs).set k (some x)).set j (some y)) H' (v i))
    (q : ∀ p H2, H p = none → Ex H H2 → H2 p = some (.lst (Evl.given n f v)) → Q (.ref p) H2) : CZw K (gTup K 2 (gCons (gName k) (gCons (gName j) gNil))) tt te vs σ [.ref a, .ref m] H Q :=
  ⟨b, c, a, m, xs, ys, rfl, hx, hy, fun Dl hD => lc_it (walk_zw hn) (Evl.Cw H f v Dl) ⟨hD, Ex.new hD, upd_same⟩ (fun _ _ _ p => ⟨ex_s p.2.1 hx, ex_s p.2.1 hy⟩) (fun i x H1 H2 hi p y => by
    obtain ⟨T, u, x', rfl, e1, rfl, e3, e4⟩ := y
    refine z_gtup2 (st_of upd_same) ⟨hw _ _, ?_⟩
    have p2 : Evl.Cw H f v Dl i (upd H1 T (.tup [u, x'])) := ⟨p.1, p.2.1.trans (Ex.new e1), Ex.new e1 _ _ p.2.2⟩
    exact Evl.cw_turn p2 (by omega) (ht i u x' H hi e3 e4 (Ex.refl H)) fun hf => he i u x' H hi e3 e4 (Ex.refl H) hf) (fun H' p => q Dl H' p.1 p.2.1 p.2.2)⟩
end
def CT (K : PySem.W.Frag) (g : TG) (tt : TT) (te : TE) (vs : List Nat) (σ : L2.St) (x : V) (H1 : Hp) (Q : VK) : Prop := ∃ a, x = .ref a ∧ (∃ xs, SqT K H1 a xs) ∧ CW (Itt K a) g tt te vs σ H1 Q
section
variable {K : PySem.W.Frag} {σ : L2.St} {H : Hp} {Q : VK} {g : TG} {te tl : TE} {tt : TT} {vs : List Nat} {a : Addr} {xs : List V} {j : Nat}
theorem z_ct (q : tl σ H fun x H1 => CT K g tt te vs σ x H1 Q) : tLc (iTup K tl) g tt te vs σ H Q := q
theorem z_CT (hx : SqT K H a xs) (hz : xs.length ≤ 40000) (f : Nat → Bool) (v : Nat → V) (hw : ∀ x, wipe ((wipe σ vs).set j (some x)) vs = wipe σ vs)
    (ht : ∀ i x H', i < xs.length → xs[i]? = some x → Ex H H' → Evl.EvT tt ((wipe σ vs).set j (some x)) H' (f i)) (he : ∀ i x H', i < xs.length → xs[i]? = some x → Ex H H' → f i = true → Evl.Ev te ((wipe σ vs).set j (some x)) H' (v i))
    (q : ∀ p H2, H p = none → Ex H H2 → H2 p = some (.lst (Evl.given xs.length f v)) → Q (.ref p) H2) : CT K (gName j) tt te vs σ (.ref a) H Q :=
  ⟨a, rfl, ⟨xs, hx⟩, z_CW (X := fun i => xs.getD i .non) (walk_tup.mono (fun _ h => h) (fun i H x H' _ _ y => ⟨y.1, by rw [List.getD_eq_getElem?_getD, y.2] <;> rfl⟩)) hz (fun _ e => ex_t e hx) f v hw
    (fun i H' hi e => ht i _ H' hi (by rw [List.getD_eq_getElem?_getD, List.getElem?_eq_getElem hi] <;> rfl) e) (fun i H' hi e hf => he i _ H' hi (by rw [List.getD_eq_getElem?_getD, List.getElem?_eq_getElem hi] <;> rfl) e hf) q⟩
end
theorem z_lenSq {K : PySem.W.Frag} {H : Hp} {Q : VK} {l : Addr} {xs : List V} {b : Bool} (h : ZW.SqS b K H l xs) (q : Q (.int xs.length) H) : cLenSeq K [.ref l] H Q := by
  cases b with
  | false => exact z_lenL h q
  | true => exact z_lenT h q
/-! ### a list, a tuple or a dict by a number -/
def rIxA (K : PySem.W.Frag) : R2 := fun x y H Q => rIxL K x y H Q ∨ rIxT K x y H Q ∨ ∃ a kvs i v, x = .ref a ∧ y = .int i ∧ H a = some (.dK kvs) ∧ valV kvs (Sum.inl i) = some v ∧ Q v H
theorem ix_any {X : Cx} (hu : X.A.units + 1 < cLine) : IxR X (rIxA X.K) := by
  intro value slice pins s σ H x y v u Q I rx ry h hs
  rcases h with h | h | ⟨a, kvs, i, r, rfl, rfl, hd, e, q⟩
  · exact ix_list value slice pins s σ H x y v u Q I rx ry h hs
  · exact ix_tup value slice pins s σ H x y v u Q I rx ry h hs
  · cases rx
    have dg : DGet H a (.int i) (some r) := by
      rw [← e]
      exact DGet.k (k := Sum.inl i) hd
    exact tail_any (dict_typeIs I dg) slot_dict_getitem.lookup (d_getItem hu I dg ry fun w' s' I' r' => ⟨r, H, I', r', q⟩) hs
section
variable {K : PySem.W.Frag} {H : Hp} {Q : VK} {a : Addr} {xs : List V} {i : Int} {v : V} {kvs : List (Key × V)} {b : Bool}
theorem z_ixAs (h : ZW.SqS b K H a xs) (e : atI xs i = some v) (q : Q v H) : rIxA K (.ref a) (.int i) H Q := by
  cases b with
  | false => exact .inl (z_ixL h e q)
  | true => exact .inr (.inl (z_ixT h e q))
theorem z_ixAd (h : H a = some (.dK kvs)) (e : valV kvs (Sum.inl i) = some v) (q : Q v H) : rIxA K (.ref a) (.int i) H Q := .inr (.inr ⟨a, kvs, i, v, rfl, rfl, h, e, q⟩)
end
end Z

set_option Elab.async false
set_option linter.all false
set_option maxRecDepth 100000
set_option maxHeartbeats 4000000
/-! Zf: loops and comprehensions over the keys of a locked dict. -/
namespace Z
open PySem PySem.Spec PyProof.Rows L2
open Evl (Ex ex_l ex_t ex_rd sq_of st_of fresh_back)
def FK (g : TG) (tb : TS) (D : Ends) (σ : L2.St) (x : V) (H1 : Hp) : Prop := ∃ d o, x = .ref d ∧ ((∃ kvs, H1 d = some (.frz o (.dK kvs)) ∧ FW (Itk d o kvs) g tb D σ H1) ∨ ∃ kvs, H1 d = some (.frz o (.dT kvs)) ∧ FW (Itkt d o kvs) g tb D σ H1)
def CK (g : TG) (tt : TT) (te : TE) (vs : List Nat) (σ : L2.St) (x : V) (H1 : Hp) (Q : VK) : Prop := ∃ d o, x = .ref d ∧ ((∃ kvs, H1 d = some (.frz o (.dK kvs)) ∧ CW (Itk d o kvs) g tt te vs σ H1 Q) ∨ ∃ kvs, H1 d = some (.frz o (.dT kvs)) ∧ CW (Itkt d o kvs) g tt te vs σ H1 Q)
section
variable {K : PySem.W.Frag} {σ : L2.St} {H : Hp} {D : Ends} {Q : VK} {g : TG} {tb : TS} {td te : TE} {tt : TT} {vs : List Nat} {d : Addr} {o : Obj} {kvs : List (Key × V)} {j : Nat}
theorem z_fk (q : td σ H fun x H1 => FK g tb D σ x H1) : tFor (iKeys td) g tb D σ H := q
theorem z_ck (q : td σ H fun x H1 => CK g tt te vs σ x H1 Q) : tLc (iKeys td) g tt te vs σ H Q := q
theorem z_FK (hd : H d = some (.frz o (.dK kvs))) (Pv : Nat → L2.St → Hp → Prop) (h0 : Pv 0 σ H) (hG : ∀ i σ H, i ≤ kvs.length → Pv i σ H → H d = some (.frz o (.dK kvs)))
    (hs : ∀ i k v σ H, i < kvs.length → kvs[i]? = some (k, v) → Pv i σ H → g (kV k) σ H fun σ2 H2 => tb { D with nx := Pv (i + 1), ct := Pv (i + 1), bk := D.nx } σ2 H2) (he : ∀ σ H, Pv kvs.length σ H → D.nx σ H) : FK g tb D σ (.ref d) H :=
  ⟨d, o, rfl, .inl ⟨kvs, hd, for_it walk_keys Pv h0 hG (fun i x σ H H' hi p y => by
    obtain ⟨rfl, k, v, e, rfl⟩ := y
    exact hs i k v σ _ hi e p) he⟩⟩
theorem z_CK (hd : H d = some (.frz o (.dK kvs))) (hz : kvs.length ≤ 40000) (f : Nat → Bool) (v : Nat → V) (hw : ∀ x, wipe ((wipe σ vs).set j (some x)) vs = wipe σ vs)
    (ht : ∀ i k u H', i < kvs.length → kvs[i]? = some (k, u) → Ex H H' → Evl.EvT tt ((wipe σ vs).set j (some (kV k))) H' (f i)) (he : ∀ i k u H', i < kvs.length → kvs[i]? = some (k, u) → Ex H H' → f i = true → Evl.Ev te ((wipe σ vs).set j (some (kV k))) H' (v i))
    (q : ∀ p H2, H p = none → Ex H H2 → H2 p = some (.lst (Evl.given kvs.length f v)) → Q (.ref p) H2) : CK (gName j) tt te vs σ (.ref d) H Q :=
  ⟨d, o, rfl, .inl ⟨kvs, hd, z_CW (X := fun i => ((kvs[i]?).map fun kv => kV kv.1).getD .non) (walk_keys.mono (fun _ h => h) (fun i H x H' _ _ y => by
      obtain ⟨e, k, u, e2, e3⟩ := y
      exact ⟨e, by rw [e2, e3] <;> rfl⟩)) hz (fun _ e => e _ _ hd) f v hw
    (fun i H' hi e => by
      rcases hk : kvs[i] with ⟨k, u⟩
      have h2 : kvs[i]? = some (k, u) := by rw [List.getElem?_eq_getElem hi, hk]
      show Evl.EvT tt ((wipe σ vs).set j (some (((kvs[i]?).map fun kv => kV kv.1).getD .non))) H' (f i)
      rw [h2]
      exact ht i k u H' hi h2 e) (fun i H' hi e hf => by
      rcases hk : kvs[i] with ⟨k, u⟩
      have h2 : kvs[i]? = some (k, u) := by rw [List.getElem?_eq_getElem hi, hk]
      show Evl.Ev te ((wipe σ vs).set j (some (((kvs[i]?).map fun kv => kV kv.1).getD .non))) H' (v i)
      rw [h2]
      exact he i k u H' hi h2 e hf) q⟩⟩
theorem z_CKw (hd : H d = some (.frz o (.dK kvs))) (Pv : Addr → Nat → Hp → Prop) (h0 : ∀ D, H D = none → Pv D 0 (upd H D (.lst []))) (hG : ∀ D i H1, H D = none → Pv D i H1 → H1 d = some (.frz o (.dK kvs))) (hw : ∀ x, wipe ((wipe σ vs).set j (some x)) vs = wipe σ vs)
    (hs : ∀ D i k v H1, H D = none → i < kvs.length → kvs[i]? = some (k, v) → Pv D i H1 → te ((wipe σ vs).set j (some (kV k))) H1 fun y H2 => ∃ acc, H2 D = some (.lst acc) ∧ acc.length < sizeLine ∧ Pv D (i + 1) (upd H2 D (.lst (acc ++ [y]))))
    (q : ∀ D H2, H D = none → Pv D kvs.length H2 → Q (.ref D) H2) : CK (gName j) tYes te vs σ (.ref d) H Q :=
  ⟨d, o, rfl, .inl ⟨kvs, hd, fun D hD => lc_it walk_keys (Pv D) (h0 D hD) (fun i H1 _ p => hG D i H1 hD p) (fun i x H1 H2 hi p y => by
    obtain ⟨rfl, k, v, e, rfl⟩ := y
    exact ⟨hw _, hs D i k v H2 hD hi e p⟩) (fun H' p => q D H' hD p)⟩⟩
/-- the last one of a list -/
theorem z_ixLast {l : Addr} {xs : List V} {v : V} (h : SqL K H l (xs ++ [v])) (q : Q v H) : rIxL K (.ref l) (.int (-1)) H Q := ⟨l, _, -1, v, rfl, rfl, h, atI_last xs v, q⟩
theorem z_rpopLast {a : Addr} {xs : List V} {v : V} (h : H a = some (.lst (xs ++ [v]))) (q : Q v (upd H a (.lst xs))) : rPop (.ref a) [] H Q :=
  z_rpop (v := v) h (by simp) (by rw [List.dropLast_concat]; exact q)
theorem z_revOf {te : TE} (q : te σ H fun x H1 => ∃ (a : Addr) (xs : List V), x = .ref a ∧ SqL K H1 a xs ∧ ∀ q, H1 q = none → Q (.ref q) (upd H1 q (.lst xs.reverse))) : tRevOf K te σ H Q := q
end
end Z

set_option Elab.async false
set_option linter.all false
set_option maxRecDepth 100000
set_option maxHeartbeats 4000000
/-! Zn: promises that are never asked (the start of a recursion), dict comprehensions, loops and comprehensions with two or three targets, tuple.index. -/
namespace ZN
open PySem PySem.Spec PyProof.Rows L2 Z
open Evl (Ex ex_l ex_t ex_rd sq_of st_of fresh_back)
section
variable {P : Program} {w : World} {K : PySem.W.Frag} {mg : Str → Option Value} {base : Heap}
theorem cal_no {x : Str} {st : Stmt} {ps : List Str} {k : Nat} {sp : Sp} (D : DX K mg x st)
    (hb : ∀ (kV doc pm : Value) (an : Option Addr) (cdv ct : Value) (us : List Value), us.length = ps.length → bindArgs (PySem.W.fnOf x x (defArgs st) (defBody st) (defScope st) .none kV doc pm an cdv ct) ⟨us, []⟩ = pure (ps.zip us))
    (no : ∀ vs H Q E, ¬ sp vs H Q E) : Cal P w K mg base k x sp := by
  obtain ⟨f, fd, F, hm⟩ := D
  exact ⟨f, fd, ps, ⟨fun vs H Q E h => absurd h (no vs H Q E), fun A outer s H args us vs Q E _ _ _ _ h => absurd h (no vs H Q E)⟩, hm, F.kp, F.bindsN hb⟩
theorem calG_no {x : Str} {st : Stmt} {ps : List Str} {k : Nat} {sp : Sp} (D : DX K mg x st)
    (hb : ∀ (kV doc pm : Value) (an : Option Addr) (cdv ct : Value) (us : List Value), us.length = ps.length → bindArgs (PySem.W.fnOf x x (defArgs st) (defBody st) (defScope st) .none kV doc pm an cdv ct) ⟨us, []⟩ = pure (ps.zip us))
    (no : ∀ vs H Q E, ¬ sp vs H Q E) : CalG P w K mg base k x sp := by
  obtain ⟨f, fd, F, hm⟩ := D
  exact ⟨f, fd, ps, ⟨fun vs H Q E h => absurd h (no vs H Q E), fun B st s H ar us vs Q E _ _ _ _ _ h => absurd h (no vs H Q E)⟩, hm, F.kp, F.bindsN hb⟩
end
abbrev rTIndex (K : PySem.W.Frag) : V → List V → Hp → VK → Prop := fun x xs H Q => ∃ p, ∃ ys : List Str, ∃ z j, x = .ref p ∧ xs = [.str z] ∧ SqT K H p (ys.map V.str) ∧ ys[j]? = some z ∧ (∀ m, m < j → ys[m]? ≠ some z) ∧ Q (.int (j : Nat)) H
def DC (K : PySem.W.Frag) (J : It) (g : TG) (tt : TT) (tk tv : TE) (vs : List Nat) (σ : L2.St) (H1 : Hp) (Q : VK) : Prop := ∀ D, H1 D = none → ∃ W : Nat → Nat → Hp → Prop, (∃ m, W 0 m (upd H1 D (.dK []))) ∧ ∀ i m H, W i m H →
  (J.stop i H ∧ Q (.ref D) H) ∨ (J.go i H ∧ ∃ Nx : Hp → Prop, (∀ H', Nx H' → ∃ m', m' < m ∧ W (i + 1) m' H') ∧ ∀ x H', J.yld i H x H' → g x (wipe σ vs) H' fun σ2 H2 => wipe σ2 vs = wipe σ vs ∧ tt σ2 H2 fun b H3 =>
    if b = true then tk σ2 H3 fun y H4 => tv σ2 H4 fun z H5 => ∃ kvs k, y = kV k ∧ H5 D = some (.dK kvs) ∧ kvs.length < sizeLine ∧ Nx (upd H5 D (.dK (putK kvs k z))) else Nx H3)
def DT (K : PySem.W.Frag) (g : TG) (tt : TT) (tk tv : TE) (vs : List Nat) (σ : L2.St) (x : V) (H1 : Hp) (Q : VK) : Prop := ∃ a, x = .ref a ∧ (∃ xs, SqT K H1 a xs) ∧ DC K (Itt K a) g tt tk tv vs σ H1 Q
section
variable {K : PySem.W.Frag} {σ : L2.St} {H : Hp} {Q : VK} {QA : List V → Hp → Prop} {D : Ends} {g : TG} {tb : TS} {tt : TT} {tk tv te tl : TE} {ta : TA} {vs : List Nat} {a : Addr} {xs : List V} {j : Nat} {x y z v : V}
theorem z_dt (q : te σ H fun x H1 => DT K g tt tk tv vs σ x H1 Q) : tDc (iTup K te) g tt tk tv vs σ H Q := q
theorem z_DT (hx : SqT K H a xs) (Pv : Addr → Nat → Hp → Prop) (h0 : ∀ D, H D = none → Pv D 0 (upd H D (.dK []))) (hG : ∀ D i H1, H D = none → Pv D i H1 → SqT K H1 a xs)
    (hs : ∀ D i x H1, H D = none → i < xs.length → xs[i]? = some x → Pv D i H1 → g x (wipe σ vs) H1 fun σ2 H2 => wipe σ2 vs = wipe σ vs ∧ tt σ2 H2 fun b H3 =>
      if b = true then tk σ2 H3 fun y H4 => tv σ2 H4 fun z H5 => ∃ kvs k, y = kV k ∧ H5 D = some (.dK kvs) ∧ kvs.length < sizeLine ∧ Pv D (i + 1) (upd H5 D (.dK (putK kvs k z))) else Pv D (i + 1) H3)
    (q : ∀ D H2, H D = none → Pv D xs.length H2 → Q (.ref D) H2) : DT K g tt tk tv vs σ (.ref a) H Q :=
  ⟨a, rfl, ⟨xs, hx⟩, fun D hD => dc_tup (Pv D) (h0 D hD) (fun i H1 _ p => hG D i H1 hD p) (fun i x H1 e p => hs D i x H1 hD (List.getElem?_eq_some_iff.mp e).1 e p) (fun H' p => q D H' hD p)⟩
/-- two, three targets -/
theorem z_g2 {m n : Nat} {QS : L2.St → Hp → Prop} (h : SqT K H a [x, y]) (q : QS ((σ.set m (some x)).set n (some y)) H) : gTup K 2 (gCons (gName m) (gCons (gName n) gNil)) (.ref a) σ H QS := z_gtup2 h q
theorem z_g3 {m n k : Nat} {QS : L2.St → Hp → Prop} (h : SqT K H a [x, y, z]) (q : QS (((σ.set m (some x)).set n (some y)).set k (some z)) H) : gTup K 3 (gCons (gName m) (gCons (gName n) (gCons (gName k) gNil))) (.ref a) σ H QS :=
  ⟨a, _, rfl, h, rfl, x, [y, z], rfl, y, [z], rfl, z, [], rfl, rfl, q⟩
theorem z_g5 {i1 i2 i3 i4 i5 : Nat} {x1 x2 x3 x4 x5 : V} {QS : L2.St → Hp → Prop} (h : SqT K H a [x1, x2, x3, x4, x5]) (q : QS (((((σ.set i1 (some x1)).set i2 (some x2)).set i3 (some x3)).set i4 (some x4)).set i5 (some x5)) H) :
    gTup K 5 (gCons (gName i1) (gCons (gName i2) (gCons (gName i3) (gCons (gName i4) (gCons (gName i5) gNil))))) (.ref a) σ H QS :=
  ⟨a, _, rfl, h, rfl, x1, _, rfl, x2, _, rfl, x3, _, rfl, x4, _, rfl, x5, [], rfl, rfl, q⟩
/-- a comprehension over a list, any target and test, by one's own invariant -/
theorem z_CLg (hx : SqL K H a xs) (Pv : Addr → Nat → Hp → Prop) (h0 : ∀ D, H D = none → Pv D 0 (upd H D (.lst []))) (hG : ∀ D i H1, H D = none → Pv D i H1 → SqL K H1 a xs)
    (hs : ∀ D i x H1, H D = none → i < xs.length → xs[i]? = some x → Pv D i H1 → g x (wipe σ vs) H1 fun σ2 H2 => wipe σ2 vs = wipe σ vs ∧ tt σ2 H2 fun b H3 =>
      if b = true then te σ2 H3 fun y H4 => ∃ acc, H4 D = some (.lst acc) ∧ acc.length < sizeLine ∧ Pv D (i + 1) (upd H4 D (.lst (acc ++ [y]))) else Pv D (i + 1) H3)
    (q : ∀ D H2, H D = none → Pv D xs.length H2 → Q (.ref D) H2) : CL K g tt te vs σ (.ref a) H Q :=
  ⟨a, rfl, ⟨xs, hx⟩, fun D hD => lc_it walk_list (Pv D) (h0 D hD) (fun i H1 _ p => hG D i H1 hD p) (fun i x H1 H2 hi p y => by
    obtain ⟨rfl, e⟩ := y
    exact hs D i x H2 hD hi e p) (fun H' p => q D H' hD p)⟩
end
end ZN

set_option Elab.async false
set_option linter.all false
set_option maxRecDepth 100000
set_option maxHeartbeats 4000000
/-! Zu: sets of texts and whole numbers made by a comprehension; how many they hold; in a dict that is written in the text. -/
namespace ZU
open PySem PySem.Spec PyProof.Rows L2 PpSet Z
/-- the set at D after k was put in -/
abbrev SkPut (P : Program) (w : World) (D : Addr) (S : Key → Bool) (n : Nat) (k : Key) : HO := SetK P w D (fun j => S j || decide (j = k)) (if S k = true then n else n + 1)
abbrev Sk0 (P : Program) (w : World) (D : Addr) : HO := SetK P w D (fun _ => false) 0
/-- {elt for target in iter} -/
def tSk (P : Program) (w : World) (wi : TI) (g : TG) (te : TE) (vs : List Nat) : TE := fun σ H Q => wi σ H fun J Ha => ∀ D, Ha D = none → ∃ G : Nat → Nat → Hp → Prop, (∃ m, G 0 m (upd Ha D (Sk0 P w D))) ∧
  ∀ i m Hb, G i m Hb → (J.stop i Hb ∧ Q (.ref D) Hb) ∨ (J.go i Hb ∧ ∃ Y : Hp → Prop, (∀ Hc, Y Hc → ∃ m', m' < m ∧ G (i + 1) m' Hc) ∧
    ∀ x Hc, J.yld i Hb x Hc → g x (wipe σ vs) Hc fun σd Hd => wipe σd vs = wipe σ vs ∧ te σd Hd fun y He => ∃ k S n, y = kV k ∧ He D = some (SetK P w D S n) ∧ n + 1 < scanBound ∧ Y (upd He D (SkPut P w D S n k)))
section
variable {X : Cx}
theorem skFresh (h : Heap) (P : Program) (w : World) (H : Hp) : ObjOk P w H (h.push { cls := .type "set", dict := none, data := .set #[] 0 (.fresh 0 0 (!w.params.followText "set-order")) }) h.objs.size (Sk0 P w h.objs.size) :=
  setK_new ⟨_, #[], 0, _, Heap.get?_push_size _ rfl, ⟨rfl, rfl, rfl⟩, rfl, nofun, (fun k => by simp), by decide, rfl, rfl⟩
theorem pe_sk {elt tg iter : Expr} {scope : Scope} {own : List (PySem.Str × Nat)} {pos : Pos} {wi : TI} {g : TG} {te : TE}
    (hc : X.calm = true) (hN : X.N.Nodup) (hi : PI X tg iter wi) (ok : BlkOk X.N X.env.scope scope own)
    (hg : ∀ s H C cl fp, PG (X.blk s H scope (compEnvC scope cl C X.env) fp) tg g)
    (he : ∀ s H C cl fp, PE (X.blk s H scope (compEnvC scope cl C X.env) fp) elt te)
    (hs : ∀ x, foldedSetIterable iter X.env x = pure x := by intro _; rfl) :
    PE X (.SetComp elt [⟨tg, iter, [], 0⟩] scope pos) (tSk X.prog X.w wi g te (own.map (·.2))) := by
  refine ⟨fun pins s σ H Q I wish => ?_⟩
  have hfr : ∀ y ∈ scope.names, y.2 = .free → ∃ c, X.env.cells.lookup y.1 = some c := fun y hy fr =>
    (ok.free y hy fr).elim (fun z => I.ok.has _ (.inl z)) fun z => I.ok.has _ (.inr z)
  rw [eval_SetComp]
  refine wpAny_comprehension_free rfl hs (closure_ok hfr) ok.kind (fun y hy fr => by rw [ok.uniq y hy, fr]) (thn (hi.run pins s σ H _ I wish) ?_)
  intro xv sa first
  refine thn first ?_
  rintro _ sb ⟨it, fp, tn, J, Hb, rfl, Ib, T, tb, fb, q⟩
  refine newSet_ok (newEnv_comp ?_)
  have Dn : Hb sb.heap.objs.size = none := Ib.hok.fresh (Nat.le_refl _)
  obtain ⟨G, ⟨m0, g0⟩, turn⟩ := q _ Dn
  have old : ∀ b ∈ fp, b < sb.heap.objs.size := fun b hb => let ⟨_, e, _⟩ := T.obj _ _ tb b hb; Heap.lt_size e
  generalize eD : sb.heap.objs.size = D at *
  have fresh := skFresh sb.heap X.prog X.w (upd Hb D (Sk0 X.prog X.w D))
  rw [eD] at fresh
  have grow : ∀ b o, sb.heap.get? b = some o → (sb.heap.push { cls := .type "set", dict := none, data := .set #[] 0 (.fresh 0 0 (!X.w.params.followText "set-order")) }).get? b = some o := fun _ _ e => Heap.get?_push_of_some _ e
  have Ic : Inv X pins σ (upd Hb D (Sk0 X.prog X.w D)) { sb with heap := sb.heap.push { cls := .type "set", dict := none, data := .set #[] 0 (.fresh 0 0 (!X.w.params.followText "set-order")) } } :=
    Ib.laid (t' := sb.toks) grow (Nat.le_of_eq eD) fresh
  have tc : tn 0 (sb.heap.push { cls := .type "set", dict := none, data := .set #[] 0 (.fresh 0 0 (!X.w.params.followText "set-order")) }) := T.keep _ _ _ tb fun b _ o e => grow b o e
  have size : (sb.heap.push { cls := .type "set", dict := none, data := .set #[] 0 (.fresh 0 0 (!X.w.params.followText "set-order")) }).objs.size = D + 1 := by rw [Heap.size_push, eD]
  generalize sb.heap.push { cls := .type "set", dict := none, data := .set #[] 0 (.fresh 0 0 (!X.w.params.followText "set-order")) } = hp at *
  have fc : ∀ b ∈ fp, FpOk X pins (upd Hb D (Sk0 X.prog X.w D)) b ∧ b < hp.objs.size := fun b hb => by
    have lt := old b hb
    refine ⟨⟨?_, (fb b hb).2⟩, size ▸ Nat.lt_succ_of_lt lt⟩
    rw [upd_ne (Nat.ne_of_lt lt)]
    exact (fb b hb).1
  have Id := block_start Ic ok hN fc
  have pg := hg { sb with heap := hp } (upd Hb D (Sk0 X.prog X.w D)) hp.objs.size (cellsFrom (hp.objs.size + 1) scope.names (cloFrom X.env.cells scope.names [])) fp
  have pe := he { sb with heap := hp } (upd Hb D (Sk0 X.prog X.w D)) hp.objs.size (cellsFrom (hp.objs.size + 1) scope.names (cloFrom X.env.cells scope.names [])) fp
  have none0 : ∀ b ∈ fp, (upd Hb D (Sk0 X.prog X.w D)) b = none := fun b hb => (fc b hb).1.1
  have envL : (compEnvC scope (cellsFrom (hp.objs.size + 1) scope.names (cloFrom X.env.cells scope.names [])) hp.objs.size X.env).locals = hp.objs.size := rfl
  show codeAny _ _ (.compStart _ 0 (.ref it) (.ref D) (compEnvC scope (cellsFrom (hp.objs.size + 1) scope.names (cloFrom X.env.cells scope.names [])) hp.objs.size X.env)) _ { sb with heap := pushCells (hp.push { cls := .type "dict", data := .dict #[] }) scope.names }
  generalize compEnvC scope (cellsFrom (hp.objs.size + 1) scope.names (cloFrom X.env.cells scope.names [])) hp.objs.size X.env = ev at *
  have td : tn 0 (pushCells (hp.push { cls := .type "dict", data := .dict #[] }) scope.names) := T.keep _ _ _ tc fun b _ o e => pushCells_keeps _ _ _ _ (Heap.get?_push_of_some _ e)
  generalize pushCells (hp.push { cls := .type "dict", data := .dict #[] }) scope.names = hd at *
  generalize eK : upd Hb D (Sk0 X.prog X.w D) = Hk at *
  have still : ∀ {σ' : L2.St} {H' : Hp} {s' : Shared}, Inv (X.blk { sb with heap := hp } Hk scope ev fp) [] σ' H' s' → (∀ b ∈ fp, H' b = none) → ∀ b ∈ fp, FpOk (X.blk { sb with heap := hp } Hk scope ev fp) [] H' b :=
    fun J' z b hb => ⟨z b hb, (J'.ok.exf b hb).1, J'.ok.exfs b hb, .inl hb, (J'.ok.exf b hb).2, fun p hm => by cases hm⟩
  suffices loop : codeAny (model X.prog X.w) X.A (.compLoop (.SetComp elt [⟨tg, iter, [], 0⟩] scope pos) 0 (.ref it) (.ref D) ev) (compPost (model X.prog X.w) X.A X.xe none (EP X pins σ Q) (.ref D) hp.objs.size) { sb with heap := hd } from
    codeAny_compStart_set loop (T.self X.A 0 _ _ _ td loop)
  refine compLoopS_any (fun m st => ∃ i Hi, Inv (X.blk { sb with heap := hp } Hk scope ev fp) [] (wipe σ (own.map (·.2))) Hi st ∧ tn i st.heap ∧ (∀ b ∈ fp, Hi b = none) ∧ G i m Hi) ?_ m0 ⟨0, Hk, Id, td, none0, g0⟩
  rintro m st ⟨i, Hi, Ii, ti, zi, gi⟩
  rcases turn i m Hi gi with ⟨stop, done⟩ | ⟨go, Y, nextG, step⟩
  · refine thnF (T.done (X.blk { sb with heap := hp } Hk scope ev fp) rfl rfl rfl hc i [] st _ Hi (fun _ _ => False) Ii (still Ii zi) ti stop) ?_
    rintro _ su ⟨rfl, Iu⟩
    have Iv : Inv X pins σ Hi su := Ic.call' (ch := fp) Iu.os Iu.base Iu.hok Iu.bare fun b hb => let z := (fc b hb).1.2; ⟨z.2.2.1, z.1, z.2.2.2.1, z.2.2.2.2⟩
    obtain ⟨mm, ns, _⟩ := Iu.loc
    have ns : su.heap.Ns ev.locals mm := ns
    have free : Hi ev.locals = none := Iu.free
    rw [envL] at ns free
    obtain ⟨a0, a1, a2, a3, a4, a5⟩ := Ic.fpOk (Nat.le_refl _) free
    exact ⟨mm, ns, fun h'' sbut => ⟨.ref D, Hi, Iv.turned (t' := su.toks) (fun b o hb e => (sbut.2 b hb).trans e) a0 a1 a3 a4 a5, rfl, done⟩⟩
  · refine thnF (T.item (X.blk { sb with heap := hp } Hk scope ev fp) rfl rfl rfl hc i [] st _ Hi (fun _ _ => False) Ii (still Ii zi) ti go) ?_
    rintro _ su ⟨u, rfl, more⟩
    refine thnF more ?_
    rintro _ sv ⟨x, Hc, Iv, rx, yl, tv, zv⟩
    refine thnF (pg.run _ sv _ Hc x u _ (Iv.pinned (still Iv zv) (T.obj _ _ tv)) rx (step x Hc yl)) ?_
    rintro _ sw ⟨σd, Hd, Iw, ew, qw⟩
    refine wpAny_pure ?_
    simp only [if_true]
    refine thnF (pe.run _ sw σd Hd _ Iw qw) ?_
    rintro z sx ⟨y, He, Ix, rz, k, S, n, rfl, hD, room, hY⟩
    refine call_set_add (kV_is rz) (key_scan rz) (setK_get (X := X.blk { sb with heap := hp } Hk scope ev fp) Ix hD) room fun h' sbut new => ?_
    have there : ∃ o, h'.get? D = some o := let ⟨o, _, _, _, ho, _⟩ := new; ⟨o, ho⟩
    have Iy := Ix.write (e := D) (t' := sx.toks + 1) (by rw [hD]; trivial) (.inl rfl) (fun b o hb e => (sbut.2 b hb).trans e) there (setK_new (H := upd He D (SkPut X.prog X.w D S n k)) new)
    obtain ⟨m', less, gm⟩ := nextG _ hY
    have pin : ∀ b ∈ fp, ∀ o, sv.heap.get? b = some o → h'.get? b = some o ∧ (upd He D (SkPut X.prog X.w D S n k)) b = none := fun b hb o e =>
      let z := Iy.pin (b, o) (List.mem_append_right _ (List.mem_append_right _ (mem_pinsAt hb e)))
      ⟨z.1, z.2.1⟩
    have same : (wipe σ (own.map (·.2))).length = σd.length := by rw [← ew, wipe_length]
    refine ⟨m', less, i + 1, _, (Iy.unpinned (pins := [])).weak same (fun j v e => ?_), T.keep _ _ _ tv fun b hb o e => (pin b hb o e).1, fun b hb => ?_, gm⟩
    · rw [← ew] at e
      exact (wipe_some e).1
    · obtain ⟨o, e, _⟩ := T.obj _ _ tv b hb
      exact (pin b hb o e).2
/-- how many a set of keys holds -/
def rLenSk (P : Program) (w : World) : List V → Hp → VK → Prop := fun xs H Q => ∃ (a : Addr) (S : Key → Bool) (n : Nat), xs = [V.ref a] ∧ H a = some (SetK P w a S n) ∧ n ≤ sizeLine ∧ Q (.int n) H
theorem cr_lenSk : CallR X (.builtin "len") (rLenSk X.prog X.w) := by
  intro pins s σ H xs us Q I r h
  obtain ⟨a, S, n, rfl, ha, small, q⟩ := h
  obtain ⟨u, rfl, ru⟩ := vals1 r
  cases ru
  obtain ⟨o, es, ep, t, ho, hex, hd, _, _, _, hf, hn⟩ := setK_get I ha
  have big : sizeLine < 2 ^ 63 := by decide
  exact call_len_set ho hex hd hf (by omega) ⟨.int n, H, I.tok _, ⟨_, by rw [hn]⟩, q⟩
/-- a text in a dict that is written in the module -/
def rInKT (K : PySem.W.Frag) (w : World) : R2 := fun x y H Q => ∃ (z : Str) (d : Addr), x = .str z ∧ y = .ref d ∧ (∃ es n, KDict K w d es n) ∧ ((∃ v, KDct K w d z v ∧ Q (.bl true) H) ∨ (PySem.W.nsIn K d z = some none ∧ Q (.bl false) H))
theorem or_inKT : OpR X (compareOp .In) (rInKT X.K X.w) := by
  intro pins s σ H x y v u Q I rx ry h
  obtain ⟨z, d, rfl, rfl, ⟨es, n, D⟩, q⟩ := h
  rcases q with ⟨x, ⟨_, _, u0, _, _, e, _⟩, q⟩ | ⟨e, q⟩
  · exact op_in_kd D pins s σ H _ _ v u Q I rx ry ⟨z, some u0, rfl, rfl, e, q⟩
  · exact op_in_kd D pins s σ H _ _ v u Q I rx ry ⟨z, none, rfl, rfl, e, q⟩
end
/-- how many different ones -/
def dnR {α : Type} [DecidableEq α] : List α → Nat
  | [] => 0
  | k :: r => if k ∈ r then dnR r else dnR r + 1
def dn {α : Type} [DecidableEq α] (l : List α) : Nat := dnR l.reverse
section
variable {α : Type} [DecidableEq α]
theorem dnR_le : ∀ l : List α, dnR l ≤ l.length
  | [] => Nat.le_refl _
  | k :: r => by
    have := dnR_le r
    unfold dnR
    rw [List.length_cons]
    split <;> omega
theorem dnR_eq : ∀ l : List α, dnR l = l.length ↔ l.Nodup
  | [] => ⟨fun _ => .nil, fun _ => rfl⟩
  | k :: r => by
    have h1 := dnR_le r
    have h2 := dnR_eq r
    unfold dnR
    rw [List.length_cons, List.nodup_cons]
    by_cases e : k ∈ r
    · rw [if_pos e]
      exact ⟨fun z => by omega, fun z => absurd e z.1⟩
    · rw [if_neg e]
      exact ⟨fun z => ⟨e, h2.mp (by omega)⟩, fun z => by rw [h2.mpr z.2]⟩
theorem dn_le (l : List α) : dn l ≤ l.length := by
  have := dnR_le l.reverse
  rwa [List.length_reverse] at this
theorem dn_eq (l : List α) : dn l = l.length ↔ l.Nodup := by
  have := dnR_eq l.reverse
  rw [List.length_reverse] at this
  unfold dn
  rw [this]
  unfold List.Nodup
  rw [List.pairwise_reverse]
  exact ⟨fun z => z.imp fun e => e.symm, fun z => z.imp fun e => e.symm⟩
theorem dn_snoc (l : List α) (k : α) : dn (l ++ [k]) = if k ∈ l then dn l else dn l + 1 := by
  unfold dn
  rw [List.reverse_append]
  show (if k ∈ l.reverse then dnR l.reverse else dnR l.reverse + 1) = _
  by_cases e : k ∈ l
  · rw [if_pos e, if_pos (List.mem_reverse.mpr e)]
  · rw [if_neg e, if_neg fun z => e (List.mem_reverse.mp z)]
end
section
variable {P : Program} {w : World} {K : PySem.W.Frag} {σ : L2.St} {H : Hp} {Q : VK} {ta te : TE} {g : TG} {vs : List Nat}
def inK (l : List Key) (k : Key) : Bool := l.any fun j => decide (k = j)
theorem inK_mem {l : List Key} {k : Key} : inK l k = true ↔ k ∈ l := by
  unfold inK
  rw [List.any_eq_true]
  exact ⟨fun ⟨j, h1, h2⟩ => (of_decide_eq_true h2) ▸ h1, fun h => ⟨k, h, decide_eq_true rfl⟩⟩
theorem inK_snoc (l : List Key) (j : Key) : inK (l ++ [j]) = fun k => inK l k || decide (k = j) := by
  funext k
  unfold inK
  rw [List.any_append]
  simp
theorem inK_dn (l : List Key) (j : Key) : dn (l ++ [j]) = if inK l j = true then dn l else dn l + 1 := by
  rw [dn_snoc]
  by_cases e : j ∈ l
  · rw [if_pos e, if_pos (inK_mem.mpr e)]
  · rw [if_neg e, if_neg fun z => e (inK_mem.mp z)]
/-- a set of what is told of each thing of a tuple -/
def CSk (P : Program) (w : World) (K : PySem.W.Frag) (g : TG) (te : TE) (vs : List Nat) (σ : L2.St) (x : V) (H : Hp) (Q : VK) : Prop :=
  ∃ a, x = .ref a ∧ (∃ xs, SqT K H a xs) ∧ ∀ D, H D = none → ∃ G : Nat → Nat → Hp → Prop, (∃ m, G 0 m (upd H D (Sk0 P w D))) ∧
    ∀ i m Hb, G i m Hb → ((Itt K a).stop i Hb ∧ Q (.ref D) Hb) ∨ ((Itt K a).go i Hb ∧ ∃ Y : Hp → Prop, (∀ Hc, Y Hc → ∃ m', m' < m ∧ G (i + 1) m' Hc) ∧
      ∀ x Hc, (Itt K a).yld i Hb x Hc → g x (wipe σ vs) Hc fun σd Hd => wipe σd vs = wipe σ vs ∧ te σd Hd fun y He => ∃ k S n, y = kV k ∧ He D = some (SetK P w D S n) ∧ n + 1 < scanBound ∧ Y (upd He D (SkPut P w D S n k)))
theorem z_sk (q : ta σ H (CSk P w K g te vs σ · · Q)) : tSk P w (iTup K ta) g te vs σ H Q := q
theorem z_CSk {a : Addr} {xs : List V} {ks : List Key} (hx : SqT K H a xs) (few : xs.length < scanBound) (hl : ks.length = xs.length)
    (hs : ∀ D (Hb : Hp) (i : Nat) x k (R : VK), H D = none → (∀ b, b ≠ D → Hb b = H b) → xs[i]? = some x → ks[i]? = some k → R (kV k) Hb → g x (wipe σ vs) Hb fun σd Hd => wipe σd vs = wipe σ vs ∧ te σd Hd R)
    (q : ∀ D, H D = none → Q (.ref D) (upd H D (SetK P w D (inK ks) (dn ks)))) : CSk P w K g te vs σ (.ref a) H Q := by
  refine ⟨a, rfl, ⟨xs, hx⟩, fun D hD => ?_⟩
  refine ⟨fun i m Hb => m = xs.length - i ∧ i ≤ xs.length ∧ Hb = upd H D (SetK P w D (inK (ks.take i)) (dn (ks.take i))), ⟨_, rfl, Nat.zero_le _, rfl⟩, ?_⟩
  rintro i m Hb ⟨rfl, hi, rfl⟩
  have hx2 : ∀ o, SqT K (upd H D o) a xs := fun o => SqT.ext hx (Ext.upd hD)
  rcases Nat.lt_or_ge i xs.length with lt | ge
  · refine .inr ⟨⟨xs, xs[i], hx2 _, by simp [lt]⟩, fun Hc => Hc = upd H D (SetK P w D (inK (ks.take (i + 1))) (dn (ks.take (i + 1)))), ?_, ?_⟩
    · rintro _ rfl
      exact ⟨xs.length - (i + 1), by omega, rfl, lt, rfl⟩
    · rintro x _ ⟨rfl, e⟩
      have e := e xs (hx2 _)
      have hk : i < ks.length := hl ▸ lt
      refine hs D _ i x ks[i] _ hD (fun b hb => upd_ne hb) e (List.getElem?_eq_getElem hk) ⟨ks[i], _, _, rfl, upd_same, ?_, ?_⟩
      · have := dn_le (ks.take i)
        rw [List.length_take] at this
        omega
      · have tk : ks.take (i + 1) = ks.take i ++ [ks[i]] := by rw [List.take_succ_eq_append_getElem hk]
        rw [upd_upd, tk, inK_dn, inK_snoc]
  · have ei : i = xs.length := by omega
    refine .inl ⟨⟨xs, hx2 _, ge⟩, ?_⟩
    rw [List.take_of_length_le (by omega)]
    exact q D hD
end
/-! ### o.f as one of several targets -/
def gFld (K : PySem.W.Frag) (ta : TE) (f : Str) : TG := fun v σ H Q => ta σ H fun x H1 => ∃ (a C dx : Addr) (fs : List (Str × V)), x = .ref a ∧ H1 a = some (.ins C dx fs) ∧ Cls K C ∧ NoAttr K C f ∧ fs.length < 1000 ∧ Q σ (upd H1 a (.ins C dx (putF f v fs)))
theorem pg_fld {X : Cx} {o : Expr} {f : Str} {ta : TE} {pos : Pos} (ho : PE X o ta) : PG X (.Attribute o f pos) (gFld X.K ta f) := by
  refine ⟨fun pins s σ H v u Q I r h => ?_⟩
  rw [PySem.assign_Attribute]
  refine wpAny_bind (wpAny_holding ?_)
  refine thn (ho.run pins s σ H _ I h) fun ov s1 hx => ?_
  obtain ⟨x, H1, I1, rx, a, C, dx, fs, rfl, ea, c, n, l, q⟩ := hx
  cases rx
  refine wpAny_bind (wpAny_standAt (wpAny_bind (wpAny_holding ?_)))
  refine setattr_ok I1 ea c n l r fun s2 I2 => wpAny_release ?_
  exact ⟨σ, _, I2, q⟩
/-- what is never come to -/
def sNever : TS := fun _ _ _ => False
theorem ps_never {X : Cx} {st : Stmt} : PS X st sNever := ⟨fun _ _ _ _ _ _ h => h.elim⟩
section
variable {P : Program} {w : World} {K : PySem.W.Frag} {mg : Str → Option Value} {base : Heap}
theorem calM_no {C m qual : Str} {st : Stmt} {ps : List Str} {k : Nat} {sp : Sp} (c : Cls K (He.ga K C)) (me : Meth K (He.ga K C) m (He.ma K (He.ga K C) m)) (D : DM K C m qual st)
    (hb : ∀ (kV doc pm : Value) (an : Option Addr) (cdv ct : Value) (us : List Value), us.length = ps.length → bindArgs (PySem.W.fnOf m qual (defArgs st) (defBody st) (defScope st) .none kV doc pm an cdv ct) ⟨us, []⟩ = pure (ps.zip us))
    (no : ∀ vs H Q E, ¬ sp vs H Q E) : CalM P w K mg base k (He.ga K C) m sp := by
  obtain ⟨fd, F⟩ := D
  exact ⟨fd, ps, ⟨fun vs H Q E h => absurd h (no vs H Q E), fun _ _ _ _ _ _ vs _ _ _ _ _ _ h => absurd h (no vs _ _ _)⟩, c, me, F.bindsN hb⟩
end
end ZU

set_option Elab.async false
set_option linter.all false
set_option maxRecDepth 100000
set_option maxHeartbeats 4000000
/-! Zp: loops over reversed(range(n)); slices and sums of tuples. -/
namespace ZP
open PySem PySem.Spec PyProof.Rows L2 Z
open Evl (Ex ex_l ex_t sq_of st_of fresh_back RetL RetV)
def FRv (g : TG) (tb : TS) (D : Ends) (σ : L2.St) (x : V) (H1 : Hp) : Prop := ∃ n : Int, x = .int n ∧ (-(2 ^ 62) ≤ (0 : Int) ∧ (0 : Int) < 2 ^ 62 ∧ -(2 ^ 62) ≤ n ∧ n < 2 ^ 62 ∧ FW (Itc (0 + (((n - 0).toNat : Nat) : Int) - 1) (-1) (n - 0).toNat) g tb D σ H1)
section
variable {K : PySem.W.Frag} {σ : L2.St} {H : Hp} {D : Ends} {Q : VK} {g : TG} {tb : TS} {tl : TE} {a b : Addr} {xs ys : List V}
theorem z_frv (q : tl σ H fun x H1 => FRv g tb D σ x H1) : tFor (iRevR (tRg1 tl)) g tb D σ H := q
theorem z_FRv {m : Nat} (hn : m ≤ 40000) (Pv : Nat → L2.St → Hp → Prop) (h0 : Pv 0 σ H)
    (hs : ∀ (i : Nat) σ H, i < m → Pv i σ H → g (.int ((m - 1 - i : Nat) : Int)) σ H fun σ2 H2 => tb { D with nx := Pv (i + 1), ct := Pv (i + 1), bk := D.nx } σ2 H2) (hd : ∀ σ H, Pv m σ H → D.nx σ H) : FRv g tb D σ (.int (m : Int)) H := by
  refine ⟨m, rfl, by decide, by decide, by omega, by omega, ?_⟩
  have e : ((m : Int) - 0).toNat = m := by omega
  rw [e]
  exact for_it walk_rangeC Pv h0 (fun _ _ _ _ _ => trivial) (fun i x σ H H' hi p y => by
    obtain ⟨rfl, rfl⟩ := y
    have e2 : (0 : Int) + (m : Int) - 1 + (i : Int) * -1 = ((m - 1 - i : Nat) : Int) := by omega
    show g (.int (0 + (m : Int) - 1 + (i : Int) * -1)) σ H' _
    rw [e2]
    exact hs i σ _ hi p) hd
theorem z_slA {lo hi : Option Int} (h : SqT K H a xs) (n : ¬ (HT.sIx xs.length 0 lo = 0 ∧ HT.sIx xs.length xs.length hi = xs.length)) (q : ∀ p, H p = none → Q (.ref p) (upd H p (.tup (cutV xs lo hi)))) : rSlA K (.ref a) lo hi H Q := ⟨a, xs, rfl, h, fun z => absurd z n, fun _ => q⟩
theorem z_catA (h : SqT K H a xs) (h2 : SqT K H b ys) (sz : xs.length + ys.length ≤ sizeLine) (nx : xs ≠ []) (ny : ys ≠ []) (q : ∀ p, H p = none → Q (.ref p) (upd H p (.tup (xs ++ ys)))) : rCatA K (.ref a) (.ref b) H Q :=
  ⟨a, b, xs, ys, rfl, rfl, h, h2, sz, fun z => absurd z nx, fun _ z => absurd z ny, fun _ _ => q⟩
end
theorem wipe_out {n : Nat} {x : Option V} : ∀ (vs : List Nat) (σ : L2.St), n ∉ vs → wipe (σ.set n x) vs = (wipe σ vs).set n x
  | [], _, _ => rfl
  | v :: vs, σ, h => by
    show (wipe (σ.set n x) vs).set v none = ((wipe σ vs).set v none).set n x
    rw [wipe_out vs σ (fun z => h (List.mem_cons_of_mem _ z)), List.set_comm _ _ (fun z => h (by rw [z]; exact List.mem_cons_self ..))]
theorem wipe_in {n : Nat} {x : Option V} : ∀ (vs : List Nat) (σ : L2.St), n ∈ vs → wipe (σ.set n x) vs = wipe σ vs
  | v :: vs, σ, h => by
    show (wipe (σ.set n x) vs).set v none = (wipe σ vs).set v none
    by_cases m : n ∈ vs
    · rw [wipe_in vs σ m]
    · rw [wipe_out vs σ m]
      rcases List.mem_cons.mp h with rfl | h
      · rw [List.set_set]
      · exact absurd h m
theorem wipe_twice : ∀ (vs : List Nat) (σ : L2.St), wipe (wipe σ vs) vs = wipe σ vs
  | [], _ => rfl
  | v :: vs, σ => by
    show (wipe ((wipe σ vs).set v none) vs).set v none = (wipe σ vs).set v none
    by_cases m : v ∈ vs
    · rw [wipe_in vs _ m, wipe_twice vs σ]
    · rw [wipe_out vs _ m, wipe_twice vs σ, List.set_set]
theorem wipe4 {σ : L2.St} {vs : List Nat} {a b c d : Nat} {x y z u : Option V} (ha : a ∈ vs) (hb : b ∈ vs) (hc : c ∈ vs) (hd : d ∈ vs) : wipe (((((wipe σ vs).set a x).set b y).set c z).set d u) vs = wipe σ vs := by
  rw [wipe_in vs _ hd, wipe_in vs _ hc, wipe_in vs _ hb, wipe_in vs _ ha, wipe_twice]
theorem te_st {te : TE} {σ : L2.St} {H : Hp} {Q : VK} (σ' : L2.St) (e : σ = σ') (h : te σ' H Q) : te σ H Q := by
  rw [e]
  exact h
/-- comprehensions that make things with objects of their own: R tells what each one is -/
theorem tt_yes {σ : L2.St} {vs : List Nat} {te : TE} {A : Hp → VK} {B : Hp → Prop} : (fun (σ2 : L2.St) (H2 : Hp) => wipe σ2 vs = wipe σ vs ∧ tYes σ2 H2 fun b H3 => if b = true then te σ2 H3 (A H3) else B H3) = fun σ2 H2 => wipe σ2 vs = wipe σ vs ∧ te σ2 H2 (A H2) := by
  funext σ2 H3
  show (wipe σ2 vs = wipe σ vs ∧ if true = true then te σ2 H3 (A H3) else B H3) = _
  rw [if_pos rfl]
theorem z_CWr {σ : L2.St} {H : Hp} {Q : VK} {g : TG} {te : TE} {vs : List Nat} {J : It} {n : Nat} {G : Hp → Prop} {Yy : Nat → Hp → V → Hp → Prop} (w : Walk J n G Yy) (hn : n ≤ 1000) (R : Addr → Nat → V → Hp → Prop)
    (hst : ∀ D i x H1 H2, (∀ b o, b ≠ D → H1 b = some o → H2 b = some o) → R D i x H1 → R D i x H2) (hG : ∀ H', Ex H H' → G H')
    (hs : ∀ D i x H1 H2 (S : VK), H D = none → (∃ us, H1 D = some (.lst us)) → Ex H H1 → i < n → Yy i H1 x H2 → (∀ y H4, Ex H1 H4 → R D i y H4 → S y H4) → g x (wipe σ vs) H2 fun σ2 H3 => wipe σ2 vs = wipe σ vs ∧ te σ2 H3 S)
    (q : ∀ D ys H2, H D = none → Ex H H2 → H2 D = some (.lst ys) → ys.length = n → (∀ (i : Nat) y, ys[i]? = some y → R D i y H2) → Q (.ref D) H2) : CW J g tYes te vs σ H Q := fun D hD =>
  lc_it w (fun i H1 => Ex H H1 ∧ ∃ ys, H1 D = some (.lst ys) ∧ ys.length = i ∧ ∀ (j : Nat) y, ys[j]? = some y → R D j y H1) ⟨Ex.new hD, [], upd_same, rfl, fun j y h => by simp at h⟩ (fun _ _ _ p => hG _ p.1) (fun i x H1 H2 hi p y => by
    obtain ⟨e1, ys, gD, ly, hR⟩ := p
    rw [tt_yes (A := fun _ y H4 => ∃ acc, H4 D = some (.lst acc) ∧ acc.length < sizeLine ∧ (Ex H (upd H4 D (.lst (acc ++ [y]))) ∧ ∃ ys, upd H4 D (.lst (acc ++ [y])) D = some (.lst ys) ∧ ys.length = i + 1 ∧ ∀ (j : Nat) x, ys[j]? = some x → R D j x (upd H4 D (.lst (acc ++ [y])))))]
    have z := hs D i x H1 H2 (fun y H4 => ∃ acc, H4 D = some (.lst acc) ∧ acc.length < sizeLine ∧ (Ex H (upd H4 D (.lst (acc ++ [y]))) ∧ ∃ ys, upd H4 D (.lst (acc ++ [y])) D = some (.lst ys) ∧ ys.length = i + 1 ∧ ∀ (j : Nat) x, ys[j]? = some x → R D j x (upd H4 D (.lst (acc ++ [y]))))) hD ⟨_, gD⟩ e1 hi y fun y H4 e4 r4 => by
      have kp : ∀ b o, b ≠ D → H4 b = some o → upd H4 D (.lst (ys ++ [y])) b = some o := fun b o nb g => by
        rw [upd_ne nb]
        exact g
      refine ⟨ys, e4 _ _ gD, Nat.lt_of_le_of_lt (show ys.length ≤ 1000 by omega) (by decide), ⟨fun b o h => ?_, _, upd_same, by rw [List.length_append, ly] <;> rfl, fun j x hx => ?_⟩⟩
      · exact kp b o (fun z => by rw [z, hD] at h; cases h) (e4 _ _ (e1 _ _ h))
      · by_cases e : j < ys.length
        · rw [List.getElem?_append_left e] at hx
          exact hst D j x _ _ (fun b o nb g => kp b o nb (e4 _ _ g)) (hR j x hx)
        · have lj : j < (ys ++ [y]).length := (List.getElem?_eq_some_iff.mp hx).1
          rw [List.length_append, List.length_singleton] at lj
          have e2 : j = ys.length := by omega
          subst e2
          rw [List.getElem?_append_right (Nat.le_refl _), Nat.sub_self] at hx
          cases hx
          rw [ly]
          exact hst D i y _ _ kp r4
    exact z) (fun H' p => by
    obtain ⟨e2, ys, gD, ly, hR⟩ := p
    exact q D ys H' hD e2 gD ly hR)
def CZ (K : PySem.W.Frag) (g : TG) (tt : TT) (te : TE) (vs : List Nat) (σ : L2.St) (xs : List V) (H1 : Hp) (Q : VK) : Prop := ∃ a b us ws, xs = [.ref a, .ref b] ∧ SqL K H1 a us ∧ SqL K H1 b ws ∧ CW (Itz K a b) g tt te vs σ H1 Q
section
variable {K : PySem.W.Frag} {σ : L2.St} {H : Hp} {Q : VK} {g : TG} {te tl : TE} {tt : TT} {ta : TA} {vs : List Nat} {a b : Addr} {xs ys : List V} {n : Nat}
/-- comprehensions, any target and test, by one's own invariant -/
theorem z_CTg (hx : SqT K H a xs) (Pv : Addr → Nat → Hp → Prop) (h0 : ∀ D, H D = none → Pv D 0 (upd H D (.lst []))) (hG : ∀ D i H1, H D = none → Pv D i H1 → SqT K H1 a xs)
    (hs : ∀ D i x H1, H D = none → i < xs.length → xs[i]? = some x → Pv D i H1 → g x (wipe σ vs) H1 fun σ2 H2 => wipe σ2 vs = wipe σ vs ∧ tt σ2 H2 fun b H3 =>
      if b = true then te σ2 H3 fun y H4 => ∃ acc, H4 D = some (.lst acc) ∧ acc.length < sizeLine ∧ Pv D (i + 1) (upd H4 D (.lst (acc ++ [y]))) else Pv D (i + 1) H3)
    (q : ∀ D H2, H D = none → Pv D xs.length H2 → Q (.ref D) H2) : CT K g tt te vs σ (.ref a) H Q :=
  ⟨a, rfl, ⟨xs, hx⟩, fun D hD => lc_it walk_tup (Pv D) (h0 D hD) (fun i H1 _ p => hG D i H1 hD p) (fun i x H1 H2 hi p y => by
    obtain ⟨rfl, e⟩ := y
    exact hs D i x H2 hD hi e p) (fun H' p => q D H' hD p)⟩
theorem z_cz (q : ta σ H fun x H1 => CZ K g tt te vs σ x H1 Q) : tLc (iZip K ta) g tt te vs σ H Q := q
theorem z_CLr (hx : SqL K H a xs) (hz : xs.length ≤ 1000) (R : Addr → Nat → V → Hp → Prop) (hst : ∀ D i x H1 H2, (∀ b o, b ≠ D → H1 b = some o → H2 b = some o) → R D i x H1 → R D i x H2)
    (hs : ∀ D i x H1 (S : VK), H D = none → (∃ us, H1 D = some (.lst us)) → Ex H H1 → xs[i]? = some x → (∀ y H4, Ex H1 H4 → R D i y H4 → S y H4) → g x (wipe σ vs) H1 fun σ2 H3 => wipe σ2 vs = wipe σ vs ∧ te σ2 H3 S)
    (q : ∀ D ys H2, H D = none → Ex H H2 → H2 D = some (.lst ys) → ys.length = xs.length → (∀ (i : Nat) y, ys[i]? = some y → R D i y H2) → Q (.ref D) H2) : CL K g tYes te vs σ (.ref a) H Q :=
  ⟨a, rfl, ⟨xs, hx⟩, z_CWr walk_list hz R hst (fun _ e => ex_l e hx) (fun D i x H1 H2 S hD u e1 hi y k => by
    obtain ⟨rfl, e⟩ := y
    exact hs D i x _ S hD u e1 e k) q⟩
theorem z_CTr (hx : SqT K H a xs) (hz : xs.length ≤ 1000) (R : Addr → Nat → V → Hp → Prop) (hst : ∀ D i x H1 H2, (∀ b o, b ≠ D → H1 b = some o → H2 b = some o) → R D i x H1 → R D i x H2)
    (hs : ∀ D i x H1 (S : VK), H D = none → (∃ us, H1 D = some (.lst us)) → Ex H H1 → xs[i]? = some x → (∀ y H4, Ex H1 H4 → R D i y H4 → S y H4) → g x (wipe σ vs) H1 fun σ2 H3 => wipe σ2 vs = wipe σ vs ∧ te σ2 H3 S)
    (q : ∀ D ys H2, H D = none → Ex H H2 → H2 D = some (.lst ys) → ys.length = xs.length → (∀ (i : Nat) y, ys[i]? = some y → R D i y H2) → Q (.ref D) H2) : CT K g tYes te vs σ (.ref a) H Q :=
  ⟨a, rfl, ⟨xs, hx⟩, z_CWr walk_tup hz R hst (fun _ e => ex_t e hx) (fun D i x H1 H2 S hD u e1 hi y k => by
    obtain ⟨rfl, e⟩ := y
    exact hs D i x _ S hD u e1 e k) q⟩
theorem z_CZr (hn : n = min xs.length ys.length) (hx : SqL K H a xs) (hy : SqL K H b ys) (hz : n ≤ 1000) (R : Addr → Nat → V → Hp → Prop) (hst : ∀ D i x H1 H2, (∀ b o, b ≠ D → H1 b = some o → H2 b = some o) → R D i x H1 → R D i x H2)
    (hs : ∀ D i x y p H1 H2 (S : VK), H D = none → (∃ us, H1 D = some (.lst us)) → Ex H H2 → Ex H1 H2 → xs[i]? = some x → ys[i]? = some y → H2 p = some (.tup [x, y]) → (∀ y H4, Ex H2 H4 → R D i y H4 → S y H4) → g (.ref p) (wipe σ vs) H2 fun σ2 H3 => wipe σ2 vs = wipe σ vs ∧ te σ2 H3 S)
    (q : ∀ D ys H2, H D = none → Ex H H2 → H2 D = some (.lst ys) → ys.length = n → (∀ (i : Nat) y, ys[i]? = some y → R D i y H2) → Q (.ref D) H2) : CZ K g tYes te vs σ [.ref a, .ref b] H Q :=
  ⟨a, b, xs, ys, rfl, hx, hy, z_CWr (walk_zip hn) hz R hst (fun _ e => ⟨ex_l e hx, ex_l e hy⟩) (fun D i x H1 H2 S hD u e1 hi y k => by
    obtain ⟨T, x', y', rfl, eT, rfl, e3, e4⟩ := y
    exact hs D i x' y' T H1 _ S hD u (e1.trans (Ex.new eT)) (Ex.new eT) e3 e4 upd_same fun y H4 e r => k y H4 ((Ex.new eT).trans e) r) q⟩
theorem z_CZwr {bb cc : Bool} (hn : n = min xs.length ys.length) (hx : ZW.SqS bb K H a xs) (hy : ZW.SqS cc K H b ys) (hz : n ≤ 1000) (R : Addr → Nat → V → Hp → Prop) (hst : ∀ D i x H1 H2, (∀ b o, b ≠ D → H1 b = some o → H2 b = some o) → R D i x H1 → R D i x H2)
    (hs : ∀ D i x y p H1 H2 (S : VK), H D = none → (∃ us, H1 D = some (.lst us)) → Ex H H2 → Ex H1 H2 → xs[i]? = some x → ys[i]? = some y → H2 p = some (.tup [x, y]) → (∀ y H4, Ex H2 H4 → R D i y H4 → S y H4) → g (.ref p) (wipe σ vs) H2 fun σ2 H3 => wipe σ2 vs = wipe σ vs ∧ te σ2 H3 S)
    (q : ∀ D ys H2, H D = none → Ex H H2 → H2 D = some (.lst ys) → ys.length = n → (∀ (i : Nat) y, ys[i]? = some y → R D i y H2) → Q (.ref D) H2) : CZw K g tYes te vs σ [.ref a, .ref b] H Q :=
  ⟨bb, cc, a, b, xs, ys, rfl, hx, hy, z_CWr (walk_zw hn) hz R hst (fun _ e => ⟨ex_s e hx, ex_s e hy⟩) (fun D i x H1 H2 S hD u e1 hi y k => by
    obtain ⟨T, x', y', rfl, eT, rfl, e3, e4⟩ := y
    exact hs D i x' y' T H1 _ S hD u (e1.trans (Ex.new eT)) (Ex.new eT) e3 e4 upd_same fun y H4 e r => k y H4 ((Ex.new eT).trans e) r) q⟩
end
end ZP
namespace Z
open PySem PySem.Spec PyProof.Rows L2
/-- len(d) -/
abbrev cLenD : List V → Hp → VK → Prop := fun xs H Q => ∃ a kvs, xs = [V.ref a] ∧ H a = some (.dK kvs) ∧ Q (.int kvs.length) H
end Z

set_option Elab.async false
set_option linter.all false
set_option maxRecDepth 100000
set_option maxHeartbeats 4000000
/-! Zo: targets of a list's things. -/
namespace ZO
open PySem PySem.Spec PyProof.Rows L2 Z
theorem z_gl3 {K : PySem.W.Frag} {H : Hp} {a : Addr} {σ : L2.St} {i1 i2 i3 : Nat} {x1 x2 x3 : V} {QS : L2.St → Hp → Prop} (h : SqL K H a [x1, x2, x3]) (q : QS (((σ.set i1 (some x1)).set i2 (some x2)).set i3 (some x3)) H) : gLst K 3 (gCons (gName i1) (gCons (gName i2) (gCons (gName i3) gNil))) (.ref a) σ H QS :=
  ⟨a, _, rfl, h, rfl, x1, _, rfl, x2, _, rfl, x3, [], rfl, rfl, q⟩
/-- a local gets a dict that is made by going through something, all on one row -/
theorem sw_dict {ke ve : Expr} {cs : List Comprehension} {sc : Scope} {p1 p2 : Pos} {z : Str} {row : Nat} {en : Env} (h1 : en.scope.kind = .function) (h2 : en.scope.names.lookup z = some .local) (h3 : (p2.line == p1.line) = true)
    (h4 : (sc.names.any fun (a, b) => a == z && (b == .local || b == .cell)) = false) : swapsWith (.DictComp ke ve cs sc p1) (some (.Name z p2)) row en = pure true := by
  have a1 : en.kindOf z = some .local := h2
  have a2 : en.blockKind = .function := by
    unfold Env.blockKind
    rw [h1]
    rfl
  unfold swapsWith
  simp only [a1, a2, h4, Expr.pos, h3]
  rfl
theorem ps_setDc {X : Cx} {i : Nat} {z : Str} {p2 : Pos} {ke ve gt it : Expr} {fs : List Expr} {sc : Scope} {own : List (Str × Nat)} {p1 sp : Pos} {wi : TI} {g : TG} {tt : TT} {tk tv : TE}
    (calm : X.calm = true) (nd : X.N.Nodup) (at_ : X.N[i]? = some z) (lo : X.env.scope.names.lookup z = some .local)
    (sw : swapsWith (.DictComp ke ve [⟨gt, it, fs, 0⟩] sc p1) (some (.Name z p2)) sp.line X.env = pure true)
    (pi : PI X gt it wi) (bo : BlkOk X.N X.env.scope sc own)
    (pg : ∀ (s : Shared) (H : Hp) (C : Addr) (cl : List (Str × Addr)) (fp : List Addr), PG (X.blk s H sc (compEnvC sc cl C X.env) fp) gt g)
    (pt : ∀ (s : Shared) (H : Hp) (C : Addr) (cl : List (Str × Addr)) (fp : List Addr), PTs (X.blk s H sc (compEnvC sc cl C X.env) fp) fs tt)
    (pk : ∀ (s : Shared) (H : Hp) (C : Addr) (cl : List (Str × Addr)) (fp : List Addr), PE (X.blk s H sc (compEnvC sc cl C X.env) fp) ke tk)
    (pv : ∀ (s : Shared) (H : Hp) (C : Addr) (cl : List (Str × Addr)) (fp : List Addr), PE (X.blk s H sc (compEnvC sc cl C X.env) fp) ve tv)
    (fo : ∀ x, foldedSetIterable it X.env x = pure x := by intro _; rfl) :
    PS X (.Assign [.Name z p2] (.DictComp ke ve [⟨gt, it, fs, 0⟩] sc p1) sp) (tAsg (tDc wi g tt tk tv (own.map (·.2))) (gName i)) := by
  refine ⟨fun pins s σ H D I w => ?_⟩
  rw [exec_Assign_Name_used _ _ _ _ sw]
  refine wpAny_bind (wpAny_standAt (wpAny_bind ?_))
  show wpAny _ X.A (do
    let _ ← comprehension (.DictComp ke ve [⟨gt, it, fs, 0⟩] sc p1) sc X.env (firstIterPos [⟨gt, it, fs, 0⟩] p1) newDict false (eval it X.env) (some (assign (.Name z p2) X.env))) _ _ s
  have w2 : tDc wi g tt tk tv (own.map (·.2)) σ H (fun x H1 => gName i x σ H1 D.nx) := w
  have core := dc_core (pos := p1) (Qf := fun _ t => SP X pins D .next t) (pos' := firstIterPos [⟨gt, it, fs, 0⟩] p1) (use := some (assign (.Name z p2) X.env)) calm nd I pi bo pg pt pk pv fo w2
    (fun L C t m Hn In q ns f => by
      show wpAny _ _ (assign (.Name z p2) X.env (.ref L)) _ _ _
      refine wpAny_assign_Name (store_ok2 (v := V.ref L) In nd at_ (.inl lo) rfl (fun t2 I2 hh => ?_) (.inr lo))
      obtain ⟨b, same, hb⟩ := hh
      obtain ⟨k0, k1, k2, k3, k4, k5⟩ := f
      have ne : C ≠ b := by
        rcases hb with e | e
        · rw [e]
          exact k1
        · exact fun y => k4 z b e y.symm
      exact ⟨m, ns.sameBut same ne, fun h9 s9 => ⟨_, Hn, I2.turned (t' := t2.toks) (fun a o na e => (s9.2 a na).trans e) k0 k1 k3 k4 k5, q⟩⟩)
  exact wpAny_bind (thn core fun _ t h => wpAny_pure (wpAny_pure h))
end ZO

set_option Elab.async false
set_option linter.all false
set_option maxRecDepth 100000
set_option maxHeartbeats 4000000
/-! Ze: exceptions: a caught one kept in a name; attributes as targets. -/
namespace ZE
open PySem PySem.Spec PyProof.Rows L2 Z
/-! ### o.f as one of several targets -/
def gFld (K : PySem.W.Frag) (ta : TE) (f : Str) : TG := fun v σ H Q => ta σ H fun x H1 => ∃ (a C dx : Addr) (fs : List (Str × V)), x = .ref a ∧ H1 a = some (.ins C dx fs) ∧ Cls K C ∧ NoAttr K C f ∧ fs.length < 1000 ∧ Q σ (upd H1 a (.ins C dx (putF f v fs)))
theorem pg_fld {X : Cx} {o : Expr} {f : Str} {ta : TE} {pos : Pos} (ho : PE X o ta) : PG X (.Attribute o f pos) (gFld X.K ta f) := by
  refine ⟨fun pins s σ H v u Q I r h => ?_⟩
  rw [PySem.assign_Attribute]
  refine wpAny_bind (wpAny_holding ?_)
  refine thn (ho.run pins s σ H _ I h) fun ov s1 hx => ?_
  obtain ⟨x, H1, I1, rx, a, C, dx, fs, rfl, ea, c, n, l, q⟩ := hx
  cases rx
  refine wpAny_bind (wpAny_standAt (wpAny_bind (wpAny_holding ?_)))
  refine setattr_ok I1 ea c n l r fun s2 I2 => wpAny_release ?_
  exact ⟨σ, _, I2, q⟩
/-! ### an exception that was caught, kept -/
def ExT (cls : Value) (d : Option Addr) (a : Addr) : HO := .ext fun h => ∃ (ob : Obj) (fl : Array Value), h.get? a = some ob ∧ Zc cls d ob ∧ ob.data = .fields fl
theorem exT_ok {P : Program} {w : World} {H : Hp} {h : Heap} {a : Addr} {cls : Value} {d : Option Addr} {ob : Obj} {fl : Array Value} (e : h.get? a = some ob) (z : Zc cls d ob) (hd : ob.data = .fields fl) : ObjOk P w H h a (ExT cls d a) :=
  ⟨⟨ob, fl, e, z, hd⟩, ⟨ob, e⟩, fun _ _ ⟨o, v, q, r⟩ k => ⟨o, v, k o q, r⟩⟩
section
variable {X : Cx} {pins : List (Addr × Obj)} {σ : L2.St} {H : Hp} {s : Shared}
/-- an object that is there but not known yet is known from now on -/
theorem track {a : Addr} {ob : Obj} {fl : Array Value} {u : HO} (I : Inv X pins σ H s) (ha : s.heap.get? a = some ob) (hd : ob.data = .fields fl) (na : H a = none) (n0 : X.s_0.heap.get? a = none)
    (nL : a ≠ X.env.locals) (np : ∀ p ∈ X.pn ++ pins, p.1 ≠ a) (new : ObjOk X.prog X.w (upd H a u) s.heap a u) : Inv X pins σ (upd H a u) s := by
  have old : ∀ b o, X.s_0.heap.get? b = some o → b ≠ a := fun b o e z => by
    rw [z, n0] at e
    cases e
  have kn : ∀ b o, H b = some o → b ≠ a := fun b o e z => by
    rw [z, na] at e
    cases e
  refine { ok := I.ok, os := I.os, bare := I.bare, base := ?_, loc := I.loc, cell := I.cell, free := ?_, freeC := ?_, pin := ?_, hok := ?_, len := I.len }
  · refine { keep := I.base.keep, slot := I.base.slot, free := ?_, there := I.base.there, tups := ?_, frzs := ?_, tbls := ?_ }
    · intro b o e n hx
      rw [upd_ne (old b o e)]
      exact I.base.free b o e n hx
    · intro b xs e
      have q := I.base.tups b xs e
      rw [upd_ne (kn b _ q)]
      exact q
    · intro b o v e
      have q := I.base.frzs b o v e
      rw [upd_ne (kn b _ q)]
      exact q
    · intro b ps e
      obtain ⟨m, q⟩ := I.base.tbls b ps e
      exact ⟨m, by rw [upd_ne (kn b _ q)]; exact q⟩
  · rw [upd_ne (fun z => nL z.symm)]
    exact I.free
  · intro x c e
    have ne : c ≠ a := fun z => by
      obtain ⟨v, o, ho, hc⟩ := I.cell x c e
      rw [z, ha] at ho
      cases ho
      rw [hd] at hc
      cases hc
    rw [upd_ne ne]
    exact I.freeC x c e
  · intro p hp
    obtain ⟨h1, h2, h3⟩ := I.pin p hp
    exact ⟨h1, by rw [upd_ne (np p hp)]; exact h2, h3⟩
  · intro b o e
    by_cases z : b = a
    · subst z
      rw [upd_same] at e
      cases e
      exact new
    · rw [upd_ne z] at e
      refine (I.hok b o e).stay (fun _ _ _ q => q) (fun c q => ?_) (fun c xs q => ?_)
      · rw [upd_ne (kn c _ q)]
        exact q
      · rw [upd_ne (kn c _ q)]
        exact q
end
/-- the wish of 'except x as n', the suite's end keeping the exception known -/
def wKeep (K : PySem.W.Frag) (c : Value) (i : Nat) (ts : Addr → Value → Option Addr → TS) (Wout : WX) (D : Ends) : WX := fun cls d σ H =>
  ∃ b, PySem.W.exmOne K cls c = some b ∧
    (b = true → ∀ a, H a = none → ts a cls d { nx := fun σ' H' => H' a = none → D.nx (σ'.set i none) (upd H' a (ExT cls d a)), rt := fun _ _ => False, bk := fun _ _ => False, ct := fun _ _ => False } (σ.set i (some (.ref a))) H) ∧
    (b = false → Wout cls d σ H)
section
variable {X : Cx} {x n : Str} {c : Value} {i : Nat} {body suite : List Stmt} {b₀ : Stmt} {np pos pos' : Pos} {tb : WX → TS} {ts : Addr → Value → Option Addr → TS} {Wout : WX}
theorem ps_try_keep (hx : X.ex = []) (hs : X.stack = X.env :: X.outer) (hf : X.env.frame = some X.env.locals) (hN : X.N.Nodup) (hi : X.N[i]? = some n)
    (hln : X.env.kindOf n = some .local) (hc : Names X x c) (tk : Takes X Wout)
    (hb : ∀ (W : WX) (pn : List (Addr × Obj)) (xe : Value → Shared → Prop), Takes (X.tr pn xe) W →
      PassesOwn (model X.prog X.w) X.A X.env xe → PSs (X.tr pn xe) body (tb W))
    (hsu : ∀ (a : Addr) (ob : Obj) (cls : Value) (d : Option Addr) (pn : List (Addr × Obj)), Zc cls d ob →
      (∃ fl, ob.data = .fields fl) → PSs (X.suite a ((a, ob) :: pn)) (b₀ :: suite) (ts a cls d)) :
    PS X (.Try body [.ExceptHandler (some (.Name x np)) (some n) (b₀ :: suite) pos'] [] [] pos)
      (fun D σ H => tb (wKeep X.K c i ts Wout D) D σ H) := by
  refine ⟨fun pins s σ H D I h => wpAny_Try_except ?_⟩
  have ok := I.ok
  have fr : X.A.frames = some (X.env :: X.outer) := ok.frames.trans (congrArg some hs)
  generalize hW : wKeep X.K c i ts Wout D = W0 at h
  have catchIt : Takes (X.tr (X.pn ++ pins) fun e s₁ => wpAny (model X.prog X.w) X.A (noteFrame e X.env) (fun _ s₂ =>
      wpAny (model X.prog X.w) X.A (setFlight e none) (fun _ s₃ =>
        wpAny (model X.prog X.w) X.A (handleBy e X.env [.ExceptHandler (some (.Name x np)) (some n) (b₀ :: suite) pos'])
          (SP X pins D) X.xe s₃) X.xe s₂) X.xe s₁) W0 := by
    rintro u s' ⟨a, B, sI, pins', σ', H', cls, d, rfl, J', nb, up, sky, na, os, ag, w⟩
    subst hW
    obtain ⟨b, hb1, hyes, hno⟩ := w
    have J : Inv X pins σ' H' sI := J'.ofTry ok
    have sky' : Sky B (X.env :: X.outer) a (Zc cls d) X.env.locals s'.heap := hs ▸ sky
    show wpAny (model X.prog X.w) X.A (noteFrame (.ref a) X.env) _ _ _
    refine Sky.land Zc.steady fr hf sky' fun g1 F1 U1 => ?_
    have land : ∀ {g : Heap}, B.StaysIn g → s'.heap.UpToSlots g → Inv X pins σ' H' { s' with heap := g } := fun k1 k2 => J.landed nb k1 (up.trans k2) os ag
    -- the exception's object is no frame, nor was it there at the def's beginning
    have far : ∀ {g : Heap}, HandSPX.FlyingZ B (X.env :: X.outer) a (Zc cls d) g → a ∉ frs (X.env :: X.outer) := fun F hm => by
      obtain ⟨ob, fl, e1, _, e3⟩ := F.there
      obtain ⟨_, o', e4, no⟩ := F.2.2.1.mem hm
      cases e1.symm.trans e4
      exact no _ e3
    have away := far F1
    have aL : a ≠ X.env.locals := fun z => away (List.mem_filterMap.mpr ⟨X.env, .head _, z ▸ hf⟩)
    have aF : a ∉ X.fs := fun hm => by
      obtain ⟨e, he, q⟩ := List.mem_filterMap.mp hm
      exact away (List.mem_filterMap.mpr ⟨e, .tail _ he, q⟩)
    have nB : B.get? a = none := F1.2.1
    have notI : ∀ o, sI.heap.get? a ≠ some o := fun o e => by
      have := nb a o e (by rw [hs]; exact away)
      rw [nB] at this
      cases this
    have n0 : X.s_0.heap.get? a = none := by
      cases e : X.s_0.heap.get? a with
      | none => rfl
      | some o =>
        obtain ⟨o', e'⟩ := J.base.there a o e (by rw [hx]; exact List.not_mem_nil)
        exact absurd e' (notI o')
    have npin : ∀ p ∈ X.pn ++ pins, p.1 ≠ a := fun p hp z => notI p.2 (z ▸ (J.pin p hp).1)
    obtain ⟨ob1, fl1, e11, e12, e13⟩ := F1.there
    have S1 := (land F1.1 U1).suite e11 e13 na aL aF
    have looks : PySem.W.Looks (model X.prog X.w) g1 (typeOf (.ref a)) cls := fun _ _ _ _ k q => wpAny_typeOf_ref (k _ _ e11) (by rw [e12.1]; exact q)
    have meets := PySem.W.exm_one (M := model X.prog X.w) (land F1.1 U1).kIn looks hb1
    refine wpAny_handleBy_cons (codeAny_handlers_test ?_) (fun z => by cases z)
    have named : ∀ {R : Value → Shared → Prop} {R' : Value → Shared → Prop}, R c { s' with heap := g1 } →
        wpAny (model X.prog X.w) (X.A.mark (some (.ref a))) (eval (.Name x np) X.env) R R' { s' with heap := g1 } := fun q => by
      obtain ⟨k1, k2, k3⟩ := hc
      rcases k3 with k3 | ⟨k3, k4, k5⟩
      · exact ld_glob (X := X.suite a ((a, ob1) :: (X.pn ++ pins))) S1 k1 k3 q k2
      · exact ld_blt (X := X.suite a ((a, ob1) :: (X.pn ++ pins))) S1 k1 k3 k4 q k5 k2
    refine named (meets.here ?_)
    cases b with
    | false =>
      show wpAny _ X.A (handleBy (.ref a) X.env []) _ _ _
      refine wpAny_handleBy_nil ?_
      obtain ⟨_, _, _, oe, vs, T, oT, tv, h1, h2, h3, h4, _⟩ := id F1
      unfold PySem.passOn
      refine wpAny_bind (wpAny_field h1 h3 h4 ?_)
      have tn : ¬ (Value.ref T == Value.none) = true := by simp
      rw [if_neg tn]
      have out : wpAny (model X.prog X.w) X.A (setFlight (.ref a) X.env.frame)
          (fun _ s4 => wpAny (model X.prog X.w) X.A (throw (.ref a) : Sem Flow) (SP X pins D) X.xe s4) X.xe { s' with heap := g1 } := by
        rw [hf]
        refine HandSPX.setFlight_upZ F1 fun g2 held U2 => wpAny_throw (tk _ _ ?_)
        exact ⟨a, B, sI, pins, σ', H', cls, d, rfl, J, nb, (up.trans U1).trans U2, .inr (.inr (hs ▸ held)), na, os, ag, hno rfl⟩
      first
        | exact wpAny_bind (wpAny_pure (wpAny_bind out))
        | exact wpAny_bind out
    | true =>
      refine codeAny_handlers_suite_as (HandSPX.lands_againZ F1 fun g2 F2 U2 => ?_)
      obtain ⟨ob2, fl2, e21, e22, e23⟩ := F2.there
      have S2 := (land F2.1 (U1.trans U2)).suite e21 e23 na aL aF
      refine store_ok (X := X.suite a ((a, ob2) :: (X.pn ++ pins))) (v := .ref a) S2 hN hi (.inl hln) rfl (fun s5 S5 => ?_) (.inr hln)
      refine wpAny_mono ((hsu a ob2 cls d (X.pn ++ pins) e22 ⟨_, e23⟩).run [] s5 _ H' _ S5 (hyes rfl a na)) (fun f s6 z => ?_) (fun _ _ z => z.elim)
      cases f with
      | next =>
        obtain ⟨σ6, H6, S6, q6⟩ := z
        have p6 := S6.pin (a, ob2) (.head _)
        have J6 := track (u := ExT cls d a) (S6.unsuite ok) p6.1 e23 p6.2.1 n0 aL npin (exT_ok p6.1 e22 e23)
        exact gone_ok J6 hN hi hln fun s7 J7 => ⟨_, _, J7, q6 p6.2.1⟩
      | brk => obtain ⟨_, _, _, z⟩ := z; exact z.elim
      | cont => obtain ⟨_, _, _, z⟩ := z; exact z.elim
      | ret u => obtain ⟨_, _, _, _, _, z⟩ := z; exact z.elim
  refine wpAny_mono ((hb W0 _ _ catchIt PassesOwn.looking).run [] s σ H D (I.toTry _) h) (fun f s1 z => ?_) (fun _ _ z => z)
  cases f with
  | next =>
    obtain ⟨σ', H', J, q⟩ := z
    exact wpAny_execs_nil ⟨σ', H', J.ofTry ok, q⟩
  | brk =>
    obtain ⟨σ', H', J, q⟩ := z
    exact ⟨σ', H', J.ofTry ok, q⟩
  | cont =>
    obtain ⟨σ', H', J, q⟩ := z
    exact ⟨σ', H', J.ofTry ok, q⟩
  | ret u =>
    obtain ⟨v, σ', H', J, r, q⟩ := z
    exact ⟨v, σ', H', J.ofTry ok, r, q⟩
end
end ZE

set_option Elab.async false
set_option linter.all false
set_option maxRecDepth 100000
set_option maxHeartbeats 4000000
/-! Ze2: isinstance of a kept exception; calls of what may raise. -/
namespace ZE
open PySem PySem.Spec PyProof.Rows L2 Z
/-! ### isinstance of a kept exception -/
def rIsT (K : PySem.W.Frag) : List V → Hp → VK → Prop := fun xs H Q => ∃ (a D : Addr) (c : V) (cv : Value) (b : Bool), xs = [.ref a, c] ∧ H a = some (ExT (.ref D) none a) ∧ ExcC K D ∧ (∀ u, RelV c u → u = cv) ∧ PySem.W.kitOne K (.ref D) cv = some b ∧ Q (.bl b) H
theorem call_isT {X : Cx} : CallR X (.builtin "isinstance") (rIsT X.K) := by
  rintro pins s σ H xs us Q I r ⟨a, D, c, cv, b, rfl, ha, C, hcv, e, q⟩
  obtain ⟨u1, u2, rfl, r1, r2⟩ := vals2 r
  cases r1
  cases hcv _ r2
  obtain ⟨⟨⟨oc, od, oda, osl⟩, fl, g, ⟨z1, z2⟩, z3⟩, _, _⟩ := I.hok a _ ha
  dsimp only at z1 z2 z3
  subst z1 z2 z3
  have J : PySem.W.InstAt s.heap a _ D none := ⟨g, rfl, rfl, trivial⟩
  have Z := PySem.W.handS_kitx_exc (K := X.K) (x := a) (ox := ⟨.ref D, none, .fields fl, osl⟩) C.hg C.hk C.hs C.hd C.ha C.hn C.ht C.hm
  refine PySem.W.kia_one Z I.kIn J e (fun z => nomatch z) fun tk => ?_
  exact ⟨.bl b, H, I.kept (t' := tk) fun _ _ z => z, rfl, q⟩
/-- isinstance of anything plain, or of a kept exception -/
def rIsX (K : PySem.W.Frag) : List V → Hp → VK → Prop := fun xs H Q => rIsi K xs H Q ∨ rIsT K xs H Q
theorem call_isX {X : Cx} : CallR X (.builtin "isinstance") (rIsX X.K) := by
  intro pins s σ H xs us Q I r h
  rcases h with h | h
  · exact call_isi pins s σ H xs us Q I r h
  · exact call_isT pins s σ H xs us Q I r h
/-! ### defs that may raise -/
structure CalX (P : Program) (w : World) (K : PySem.W.Frag) (mg : Str → Option Value) (base : Heap) (k : Nat) (x : Str) (sp : Sp) : Prop where
  ex : ∃ (f : Addr) (fd : FuncData) (ps : List Str), FnOk P w K mg base (L2.CX P w) k f fd ps sp ∧ mg x = some (.ref f) ∧ PySem.W.keepIn K (.ref f) = true ∧ Binds K fd ps []
/-- a class whose __init__ may raise -/
structure CalIX (P : Program) (w : World) (K : PySem.W.Frag) (mg : Str → Option Value) (base : Heap) (k : Nat) (x : Str) (C : Addr) (sp : Sp) : Prop where
  ex : ∃ (fd : FuncData) (ps : List Str), FnOk P w K mg base (L2.CX P w) k (He.ma K C "__init__") fd ps sp ∧ Mk K C (He.ma K C "__init__") ∧ mg x = some (.ref C) ∧ Binds K fd ps []
/-- a method that may raise -/
structure CalMX (P : Program) (w : World) (K : PySem.W.Frag) (mg : Str → Option Value) (base : Heap) (k : Nat) (C : Addr) (m : Str) (sp : Sp) : Prop where
  ex : ∃ (fd : FuncData) (ps : List Str), FnOk P w K mg base (L2.CX P w) k (He.ma K C m) fd ps sp ∧ Cls K C ∧ Meth K C m (He.ma K C m) ∧ Binds K fd ps []
section
variable {X : Cx} {W : WX} {k j : Nat} {x m : Str} {sp : Sp} {p pos apos : Pos} {e o : Expr} {es : List Expr} {ta : TE} {t : TA} {E : XK} {C : Addr}
/-- in a def that may raise: what it lets out goes out -/
theorem pe_cx (c : CalX X.prog X.w X.K X.mg X.base k x sp) (hx : Passes (L2.CX X.prog X.w) X E) (hr : Room j X.A) (hk : k ≤ j) (hg : Gl X x) (ha : PA X (e :: es) t)
    (hdb : (x == ("__debug__" : Str)) = false := by decide) (he : starEach (e :: es) X.env = (false, eval e X.env) :: starEach es X.env := by rfl)
    (hpl : (backTo pos (starEach es X.env)).any (·.1) = false := by rfl) : PE X (.Call (.Name x p) (e :: es) [] pos) (tCall sp [] E t) := by
  obtain ⟨f, fd, ps, F, hm, kp, b⟩ := c.ex
  exact pe_call F (hr.mono hk) hg hm kp b .nil hx ha hdb he hpl
theorem pe_mx {pl : Sem Bool} (c : CalMX X.prog X.w X.K X.mg X.base k C m sp) (hx : Passes (L2.CX X.prog X.w) X E) (hr : Room j X.A) (hk : k ≤ j) (ho : PE X o ta) (ha : PA X (e :: es) t)
    (he : starEach (e :: es) X.env = (false, eval e X.env) :: starEach es X.env := by rfl)
    (hpl : (backTo pos (starEach es X.env)).any (·.1) = false := by rfl)
    (ht : eval (.Call (.Attribute o m apos) (e :: es) [] pos) X.env = (do
      let ov ← eval o X.env
      standAt apos.atName
      let fq ← holding [ov] (getMethod ov m pl)
      callWith pos fq.1 fq.2 (backTo pos (starEach (e :: es) X.env)) (backToKw pos (keywordEach [] X.env))) := by rfl) :
    PE X (.Call (.Attribute o m apos) (e :: es) [] pos) (tMeth C m sp [] E ta t) := by
  obtain ⟨fd, ps, F, hc, hm, b⟩ := c.ex
  exact pe_meth (pl := pl) ho hc hm F (hr.mono hk) b .nil hx ha he hpl ht
theorem pe_ix (c : CalIX X.prog X.w X.K X.mg X.base k x C sp) (hx : Passes (L2.CX X.prog X.w) X E) (hr : Room j X.A) (hk : k + 1 ≤ j) (hg : Gl X x) (ha : PA X (e :: es) t)
    (hdb : (x == ("__debug__" : Str)) = false := by decide) (he : starEach (e :: es) X.env = (false, eval e X.env) :: starEach es X.env := by rfl)
    (hpl : (backTo pos (starEach es X.env)).any (·.1) = false := by rfl) : PE X (.Call (.Name x p) (e :: es) [] pos) (tMake C sp [] E t) := by
  obtain ⟨fd, ps, F, M, hm, b⟩ := c.ex
  exact pe_make M F (hr.mono hk) hg hm b .nil hx ha hdb he hpl
/-- within a try: what it lets out is wished for at the caller's slots -/
theorem pe_cxS (c : CalX X.prog X.w X.K X.mg X.base k x sp) (tk : Takes X W) (hr : Room j X.A) (hk : k ≤ j) (hg : Gl X x) (ha : PA X (e :: es) t)
    (hdb : (x == ("__debug__" : Str)) = false := by decide) (he : starEach (e :: es) X.env = (false, eval e X.env) :: starEach es X.env := by rfl)
    (hpl : (backTo pos (starEach es X.env)).any (·.1) = false := by rfl) : PE X (.Call (.Name x p) (e :: es) [] pos) (tCallS sp (WE W) t) := by
  obtain ⟨f, fd, ps, F, hm, kp, b⟩ := c.ex
  exact pe_callS F (hr.mono hk) hg hm kp b (fun σ => passAt tk σ) ha hdb he hpl
def tMethS (C : Addr) (m : Str) (sp : Sp) (E : L2.St → XK) (ta : TE) (t : TA) : TE := fun σ H Q => ta σ H fun x H1 => ∃ (a dx : Addr) (fs : List (Str × V)), x = .ref a ∧ H1 a = some (.ins C dx fs) ∧ fs.lookup m = none ∧ t σ H1 fun vs H2 => sp (x :: vs) H2 Q (E σ)
theorem pe_mxS {pl : Sem Bool} (c : CalMX X.prog X.w X.K X.mg X.base k C m sp) (tk : Takes X W) (hr : Room j X.A) (hk : k ≤ j) (ho : PE X o ta) (ha : PA X (e :: es) t)
    (he : starEach (e :: es) X.env = (false, eval e X.env) :: starEach es X.env := by rfl)
    (hpl : (backTo pos (starEach es X.env)).any (·.1) = false := by rfl)
    (ht : eval (.Call (.Attribute o m apos) (e :: es) [] pos) X.env = (do
      let ov ← eval o X.env
      standAt apos.atName
      let fq ← holding [ov] (getMethod ov m pl)
      callWith pos fq.1 fq.2 (backTo pos (starEach (e :: es) X.env)) (backToKw pos (keywordEach [] X.env))) := by rfl) :
    PE X (.Call (.Attribute o m apos) (e :: es) [] pos) (tMethS C m sp (WE W) ta t) := by
  obtain ⟨fd, ps, F, hc, hm, b⟩ := c.ex
  refine ⟨fun pins s σ H Q I h => PySem.W.methodCall_KW (pl := pl) (thn (ho.run pins s σ H _ I h) fun u s1 z => ?_) ht⟩
  obtain ⟨x, H1, I1, rx, a, dx, fs, rfl, ea, l, q⟩ := z
  cases rx
  refine getmeth_ok I1 ea hc hm l (PySem.W.callWith_K (first := [.ref a]) (h₀ := X.base) I.ok.mod.kin hm.kp ?_ he hpl)
  refine thn (ha.run pos pins s1 σ H1 _ I1 q) fun us s2 ⟨vs, H2, I2, r, q2⟩ => ⟨I2.kIn, ?_⟩
  exact run_fnS (us := .ref a :: us) (vs := .ref a :: vs) (E := WE W) F (hr.mono hk) b (passAt tk σ) I2 (.cons rfl r) q2
/-- a new instance, whose __init__ may raise: n is where its dict stands, it itself stands behind -/
theorem mk_runS {f : Addr} {fd : FuncData} {ps : List Str} {E : XK} {pins : List (Addr × Obj)} {σ : L2.St} {H : Hp} {s : Shared} {Q : VK} {us : List Value} {vs : List V} (M : Mk X.K C f)
    (F : FnOk X.prog X.w X.K X.mg X.base (L2.CX X.prog X.w) k f fd ps sp) (ro : Room (k + 1) X.A) (bi : Binds X.K fd ps []) (pass : PassesAt (L2.CX X.prog X.w) X σ E) (I : Inv X pins σ H s) (r : Vals vs us)
    (h : ∀ x dx, H x = none → H dx = none → dx ≠ x → sp (.ref x :: vs) (upd (upd H dx (.own x)) x (.ins C dx [])) (fun v H2 => v = .non ∧ Q (.ref x) H2) E) :
    wpAny (model X.prog X.w) X.A (call (.ref C) us) (EP X pins σ Q) X.xe s := by
  have J := Inv.made (C := C) I
  have f0 : H s.heap.objs.size = none := I.hok.fresh (Nat.le_refl _)
  have f1 : H (s.heap.objs.size + 1) = none := I.hok.fresh (Nat.le_succ _)
  have due := h _ _ f1 f0 (Nat.ne_of_lt (Nat.lt_succ_self _))
  have rel : Vals (V.ref (s.heap.objs.size + 1) :: vs) (Value.ref (s.heap.objs.size + 1) :: us) := .cons rfl r
  have many : (Value.ref (s.heap.objs.size + 1) :: us).length = ps.length := rel.length.symm.trans (F.len _ _ _ _ due)
  have bound := bi _ (Value.ref (s.heap.objs.size + 1) :: us) J.kIn (by rw [List.append_nil]; exact many)
  rw [List.append_nil] at bound
  have ran := F.run _ X.stack _ _ ⟨Value.ref (s.heap.objs.size + 1) :: us, []⟩ _ _ _ E (ro.make C us []) (J.env0.make C us []) bound rel due
  refine wpAny_call (make_map (f := f) I.kIn M.makes M.init (beq_iff_eq.mp M.fn) (codeAny_mono ran fun res t told => ?_))
  match res, told with
  | .error e, told => exact pass pins _ _ e t J told
  | .ok (.ret u), told =>
    obtain ⟨v, Hn, Jn, rv, ev, qn⟩ := J.after told
    subst ev
    exact ⟨rv, V.ref (s.heap.objs.size + 1), Hn, Jn, rfl, qn⟩
  | .ok .next, told => exact False.elim told
  | .ok .brk, told => exact False.elim told
  | .ok .cont, told => exact False.elim told
def tMakeS (C : Addr) (sp : Sp) (E : L2.St → XK) (t : TA) : TE := fun σ H Q => t σ H fun vs H1 => ∀ x dx, H1 x = none → H1 dx = none → dx ≠ x → sp (.ref x :: vs) (upd (upd H1 dx (.own x)) x (.ins C dx [])) (fun v H2 => v = .non ∧ Q (.ref x) H2) (E σ)
theorem pe_ixS (c : CalIX X.prog X.w X.K X.mg X.base k x C sp) (tk : Takes X W) (hr : Room j X.A) (hk : k + 1 ≤ j) (hg : Gl X x) (ha : PA X (e :: es) t)
    (hdb : (x == ("__debug__" : Str)) = false := by decide) (he : starEach (e :: es) X.env = (false, eval e X.env) :: starEach es X.env := by rfl)
    (hpl : (backTo pos (starEach es X.env)).any (·.1) = false := by rfl) : PE X (.Call (.Name x p) (e :: es) [] pos) (tMakeS C sp (WE W) t) := by
  obtain ⟨fd, ps, F, M, hm, b⟩ := c.ex
  refine ⟨fun pins s σ H Q I h => wpAny_Call_Name_kw (ld_glob I hg hm ?_ hdb)⟩
  refine PySem.W.callWith_K (h₀ := X.base) I.ok.mod.kin M.kp (thn (ha.run pos pins s σ H _ I h) fun us s1 ⟨vs, H1, I1, r, q⟩ => ⟨I1.kIn, ?_⟩) he hpl
  exact mk_runS M F (hr.mono hk) b (passAt tk σ) I1 r q
end
end ZE

set_option Elab.async false
set_option linter.all false
set_option maxRecDepth 100000
set_option maxHeartbeats 4000000
/-! Zz: defs, methods and classes that may raise; raise C(..) of a class of the program without an __init__ of its own. -/
namespace ZZ
open PySem PySem.Spec PyProof.Rows L2 Z ZE
structure ExcK (K : PySem.W.Frag) (C : Addr) : Prop where
  k : PySem.W.keepIn K (.ref C) = true
  q : PySem.W.excIn K C [.type "ValueError", .type "Exception", .type "BaseException", .type "object"] "ValueError.__new__" = true
  s : PySem.W.subIn K (.ref C) (.type "BaseException") = some true
  t : PySem.W.typeIn K (.ref C) = some (.type "type")
theorem excB_ok {K : PySem.W.Frag} {C : Addr} (h : excB K C = true) : ExcK K C := by
  unfold excB at h
  obtain ⟨h1, h2⟩ := Bool.and_eq_true_iff.mp h
  obtain ⟨h2, h3⟩ := Bool.and_eq_true_iff.mp h2
  obtain ⟨h3, h4⟩ := Bool.and_eq_true_iff.mp h3
  exact ⟨h1, h2, by simpa using h3, by simpa using h4⟩
/-- raise C(..) -/
def sRz (C : Addr) (ta : TA) (E : XK) : TS := fun _ σ H => ta σ H fun vs H1 => vs.length ≤ sizeLine ∧ E (.ref C) none H1
theorem z_rz {C : Addr} {ta : TA} {E : XK} {D : Ends} {σ : L2.St} {H : Hp} (q : ta σ H fun vs H1 => vs.length ≤ sizeLine ∧ E (.ref C) none H1) : sRz C ta E D σ H := q
section
variable {P : Program} {w : World} {K : PySem.W.Frag} {mg : Str → Option Value} {base : Heap}
theorem ps_rz {X : Cx} {E : XK} {C : Addr} {x : Str} {p pos pos' : Pos} {e : Expr} {es : List Expr} {ta : TA} (hc : X.calm = true) (tk : Takes X (fun cls d _ H => E cls d H)) (F : ExcK X.K C) (g : X.mg x = some (.ref C)) (hg : Gl X x) (ha : PA X (e :: es) ta)
    (hdb : (x == ("__debug__" : Str)) = false := by decide) (h1 : starEach (e :: es) X.env = (false, eval e X.env) :: starEach es X.env := by rfl) (h2 : (backTo pos (starEach es X.env)).any (·.1) = false := by rfl) :
    PS X (.Raise (some (.Call (.Name x p) (e :: es) [] pos)) none pos') (sRz C ta E) :=
  ps_raise hc tk (pmk_ownA PySem.F.excBase_ValueError F.q g F.k (raises_own F.s F.t) hg ha hdb h1 h2)
theorem calX_mk {x : Str} {st : Stmt} {N ps : List Str} {k : Nat} {sp : Sp} {t : XK → TS} (D : DX K mg x st) (S : FnScope N ps (defScope st))
    (bi : ∀ (kV doc pm : Value) (an : Option Addr) (cdv ct : Value) (us : List Value), us.length = ps.length → bindArgs (PySem.W.fnOf x x (defArgs st) (defBody st) (defScope st) .none kV doc pm an cdv ct) ⟨us, []⟩ = pure (ps.zip us))
    (len : ∀ vs H Q E, sp vs H Q E → vs.length = ps.length)
    (der : ∀ (f : Addr) (cdv : Value) (A : Around) (outer : List Env) (s : Shared) (H : Hp) (E : XK), Room k (A.deeper (envOfC x (defScope st) s.heap.objs.size f cdv)) → PSs (cxOf (L2.CX P w) P w K mg base N x (defScope st) f cdv A outer s H E) (defBody st) (t E))
    (vr : ∀ vs H Q E, sp vs H Q E → t E { nx := fun _ H' => Q .non H', rt := Q } (start N vs) H) : CalX P w K mg base (k + 1) x sp := by
  obtain ⟨f, fd, F, hm⟩ := D
  exact ⟨f, fd, ps, F.ok S len fun cdv A outer s H vs Q E hr h => ⟨t E, der f cdv A outer s H E hr, vr vs H Q E h⟩, hm, F.kp, F.bindsN bi⟩
theorem fnX_mk {C m qual : Str} {st : Stmt} {N ps : List Str} {k : Nat} {sp : Sp} {t : XK → TS} (D : DM K C m qual st) (S : FnScope N ps (defScope st))
    (bi : ∀ (kV doc pm : Value) (an : Option Addr) (cdv ct : Value) (us : List Value), us.length = ps.length → bindArgs (PySem.W.fnOf m qual (defArgs st) (defBody st) (defScope st) .none kV doc pm an cdv ct) ⟨us, []⟩ = pure (ps.zip us))
    (len : ∀ vs H Q E, sp vs H Q E → vs.length = ps.length)
    (der : ∀ (f : Addr) (cdv : Value) (A : Around) (outer : List Env) (s : Shared) (H : Hp) (E : XK), Room k (A.deeper (envOfC qual (defScope st) s.heap.objs.size f cdv)) → PSs (cxOf (L2.CX P w) P w K mg base N qual (defScope st) f cdv A outer s H E) (defBody st) (t E))
    (vr : ∀ vs H Q E, sp vs H Q E → t E { nx := fun _ H' => Q .non H', rt := Q } (start N vs) H) : ∃ fd, FnOk P w K mg base (L2.CX P w) (k + 1) (He.ma K (He.ga K C) m) fd ps sp ∧ Binds K fd ps [] := by
  obtain ⟨fd, F⟩ := D
  exact ⟨fd, F.ok S len fun cdv A outer s H vs Q E hr h => ⟨t E, der _ cdv A outer s H E hr, vr vs H Q E h⟩, F.bindsN bi⟩
theorem calMX_mk {C m qual : Str} {st : Stmt} {N ps : List Str} {k : Nat} {sp : Sp} {t : XK → TS} (c : Cls K (He.ga K C)) (me : Meth K (He.ga K C) m (He.ma K (He.ga K C) m)) (D : DM K C m qual st) (S : FnScope N ps (defScope st))
    (bi : ∀ (kV doc pm : Value) (an : Option Addr) (cdv ct : Value) (us : List Value), us.length = ps.length → bindArgs (PySem.W.fnOf m qual (defArgs st) (defBody st) (defScope st) .none kV doc pm an cdv ct) ⟨us, []⟩ = pure (ps.zip us))
    (len : ∀ vs H Q E, sp vs H Q E → vs.length = ps.length)
    (der : ∀ (f : Addr) (cdv : Value) (A : Around) (outer : List Env) (s : Shared) (H : Hp) (E : XK), Room k (A.deeper (envOfC qual (defScope st) s.heap.objs.size f cdv)) → PSs (cxOf (L2.CX P w) P w K mg base N qual (defScope st) f cdv A outer s H E) (defBody st) (t E))
    (vr : ∀ vs H Q E, sp vs H Q E → t E { nx := fun _ H' => Q .non H', rt := Q } (start N vs) H) : CalMX P w K mg base (k + 1) (He.ga K C) m sp := by
  obtain ⟨fd, F, b⟩ := fnX_mk D S bi len der vr
  exact ⟨fd, ps, F, c, me, b⟩
theorem calIX_mk {C qual : Str} {st : Stmt} {N ps : List Str} {k : Nat} {sp : Sp} {t : XK → TS} (M : Mk K (He.ga K C) (He.ma K (He.ga K C) "__init__")) (g : mg C = some (.ref (He.ga K C))) (D : DM K C "__init__" qual st) (S : FnScope N ps (defScope st))
    (bi : ∀ (kV doc pm : Value) (an : Option Addr) (cdv ct : Value) (us : List Value), us.length = ps.length → bindArgs (PySem.W.fnOf "__init__" qual (defArgs st) (defBody st) (defScope st) .none kV doc pm an cdv ct) ⟨us, []⟩ = pure (ps.zip us))
    (len : ∀ vs H Q E, sp vs H Q E → vs.length = ps.length)
    (der : ∀ (f : Addr) (cdv : Value) (A : Around) (outer : List Env) (s : Shared) (H : Hp) (E : XK), Room k (A.deeper (envOfC qual (defScope st) s.heap.objs.size f cdv)) → PSs (cxOf (L2.CX P w) P w K mg base N qual (defScope st) f cdv A outer s H E) (defBody st) (t E))
    (vr : ∀ vs H Q E, sp vs H Q E → t E { nx := fun _ H' => Q .non H', rt := Q } (start N vs) H) : CalIX P w K mg base (k + 1) C (He.ga K C) sp := by
  obtain ⟨fd, F, b⟩ := fnX_mk D S bi len der vr
  exact ⟨fd, ps, F, M, g, b⟩
end
/-- f'..' of two parts or more -/
def tFs (ts : List TE) : TE := fun σ H Q => tJs ts Str.empty σ H fun out H1 => Q (.str out) H1
theorem z_fs {ts : List TE} {σ : L2.St} {H : Hp} {Q : VK} (q : tJs ts Str.empty σ H fun out H1 => Q (.str out) H1) : tFs ts σ H Q := q
theorem pe_fs {X : Cx} {v1 v2 : Expr} {rest : List Expr} {ts : List TE} {pos : Pos} (h : PJ X (v1 :: v2 :: rest) ts) : PE X (.JoinedStr (v1 :: v2 :: rest) pos) (tFs ts) := pe_joined h
/-- a class of the program, as a thing -/
theorem pe_own {X : Cx} {x : Str} {C : Addr} {p : Pos} (hg : Gl X x) (g : X.mg x = some (.ref C)) (hd : (x == ("__debug__" : Str)) = false := by decide) : PE X (.Name x p) (tC (.ref C)) := pe_gc hg ⟨_, g, rfl⟩ hd
/-- a call of what may raise, from a def that lets it out as it is -/
theorem outX {X : Cx} {E : XK} (tk : Takes X (fun cls d _ H => E cls d H)) : Passes (L2.CX X.prog X.w) X E := passes_call tk fun _ _ _ _ h => h
/-- try: .. except C as e: suite, e kept: i where e stands -/
def sTry (K : PySem.W.Frag) (C : Addr) (i : Nat) (tb : WX → TS) (ts : TS) : TS := fun D σ H => tb (wKeep K (.ref C) i (fun _ _ _ => ts) (fun _ _ _ _ => False) D) D σ H
theorem z_try {K : PySem.W.Frag} {C : Addr} {i : Nat} {tb : WX → TS} {ts : TS} {D : Ends} {σ : L2.St} {H : Hp} (q : tb (wKeep K (.ref C) i (fun _ _ _ => ts) (fun _ _ _ _ => False) D) D σ H) : sTry K C i tb ts D σ H := q
theorem excCB_ok {K : PySem.W.Frag} {D : Addr} (h : excCB K D = true) : ExcC K D := by
  unfold excCB at h
  obtain ⟨h1, h⟩ := Bool.and_eq_true_iff.mp h
  obtain ⟨h2, h⟩ := Bool.and_eq_true_iff.mp h
  obtain ⟨h3, h⟩ := Bool.and_eq_true_iff.mp h
  obtain ⟨h4, h⟩ := Bool.and_eq_true_iff.mp h
  obtain ⟨h5, h⟩ := Bool.and_eq_true_iff.mp h
  obtain ⟨h6, h⟩ := Bool.and_eq_true_iff.mp h
  obtain ⟨h7, h8⟩ := Bool.and_eq_true_iff.mp h
  exact ⟨He.eqO_ok h1, He.eqO_ok h2, by simpa using h3, h4, He.eqO_ok h5, He.eqO_ok h6, by simpa using h7, by simpa using h8⟩
structure Kinds (K : PySem.W.Frag) (es ts : List Str) : Prop where
  c : ∀ e ∈ es, ExcC K (He.ga K e)
  k : ∀ e ∈ es, ∀ t ∈ ts, PySem.W.kitOne K (.ref (He.ga K e)) (.ref (He.ga K t)) = some (decide (e = t))
  v : ∀ e ∈ es, PySem.W.kitOne K (.ref (He.ga K e)) (.type "ValueError") = some true
theorem kindsB_ok {K : PySem.W.Frag} {es ts : List Str} (h : kindsB K es (ts.map fun t => (t, t)) = true) : Kinds K es ts := by
  unfold kindsB at h
  obtain ⟨h, h3⟩ := Bool.and_eq_true_iff.mp h
  obtain ⟨h1, h2⟩ := Bool.and_eq_true_iff.mp h
  rw [List.all_eq_true] at h1 h2 h3
  refine ⟨fun e m => excCB_ok (h1 e m), fun e m t mt => ?_, fun e m => by simpa using h3 e m⟩
  have h4 := h2 e m
  rw [List.all_eq_true] at h4
  have h5 := h4 (t, t) (List.mem_map.mpr ⟨t, mt, rfl⟩)
  simpa using h5
theorem z_isX {K : PySem.W.Frag} {H : Hp} {Q : VK} {es ts : List Str} {e t : Str} {a : Addr} (kx : Kinds K es ts) (me : e ∈ es) (mt : t ∈ ts) (ha : H a = some (ExT (.ref (He.ga K e)) none a)) (q : Q (.bl (decide (e = t))) H) : rIsX K [.ref a, .ref (He.ga K t)] H Q :=
  .inr ⟨a, He.ga K e, .ref (He.ga K t), .ref (He.ga K t), _, rfl, ha, kx.c e me, fun _ r => r, kx.k e me t mt, q⟩
theorem z_isV {K : PySem.W.Frag} {H : Hp} {Q : VK} {es ts : List Str} {e : Str} {a : Addr} (kx : Kinds K es ts) (me : e ∈ es) (ha : H a = some (ExT (.ref (He.ga K e)) none a)) (q : Q (.bl true) H) : rIsX K [.ref a, .ty "ValueError"] H Q :=
  .inr ⟨a, He.ga K e, .ty "ValueError", .type "ValueError", _, rfl, ha, kx.c e me, fun _ r => r, kx.v e me, q⟩
theorem z_makeS {C : Addr} {sp : Sp} {E : L2.St → XK} {t : TA} {σ : L2.St} {H : Hp} {Q : VK} (q : t σ H fun vs H1 => ∀ x dx, H1 x = none → H1 dx = none → dx ≠ x → sp (.ref x :: vs) (upd (upd H1 dx (.own x)) x (.ins C dx [])) (fun v H2 => v = .non ∧ Q (.ref x) H2) (E σ)) : tMakeS C sp E t σ H Q := q
theorem z_methS {C : Addr} {m : Str} {sp : Sp} {E : L2.St → XK} {ta : TE} {t : TA} {σ : L2.St} {H : Hp} {Q : VK} (q : ta σ H fun x H1 => ∃ (a dx : Addr) (fs : List (Str × V)), x = .ref a ∧ H1 a = some (.ins C dx fs) ∧ fs.lookup m = none ∧ t σ H1 fun vs H2 => sp (x :: vs) H2 Q (E σ)) : tMethS C m sp E ta t σ H Q := q
/-- repr of data, or of a dict of data -/
def rReprA (K : PySem.W.Frag) : List V → Hp → VK → Prop := fun xs H Q => rReprD K xs H Q ∨ rReprK K xs H Q
theorem call_reprA {X : Cx} (quiet : X.A.guards = some []) (hu : X.A.units + 64 < cLine) : CallR X (.builtin "repr") (rReprA X.K) := fun pins s σ H xs us Q i v r => r.elim (fun r => call_reprD quiet hu pins s σ H xs us Q i v r) (fun r => call_reprK quiet hu pins s σ H xs us Q i v r)
end ZZ

set_option Elab.async false
set_option linter.all false
set_option maxRecDepth 100000
set_option maxHeartbeats 4000000
/-! Zdn: dicts whose keys are (text, tuple of whole numbers); min(xs, default=None); len(set(xs)) of any whole numbers; a class whose maker has a default. -/
namespace ZDN
open PySem PySem.Spec PyProof.Rows L2 Z
abbrev NK : Type := Str × List Int
def nk (k : NK) : NestedKey := .tup [.text k.1, .tup (k.2.map .num)]
theorem nums_inj : ∀ {a b : List Int}, a.map NestedKey.num = b.map NestedKey.num → a = b
  | [], [], _ => rfl
  | [], _ :: _, h => by cases h
  | _ :: _, [], h => by cases h
  | x :: a, y :: b, h => by
    injection h with h1 h2
    injection h1 with h1
    rw [h1, nums_inj h2]
theorem nk_inj {a b : NK} (h : nk a = nk b) : a = b := by
  obtain ⟨a1, a2⟩ := a
  obtain ⟨b1, b2⟩ := b
  unfold nk at h
  injection h with h
  injection h with h1 h2
  injection h1 with h1
  injection h2 with h2 _
  injection h2 with h2
  rw [show a1 = b1 from h1, show a2 = b2 from nums_inj h2]
theorem depth_nums : ∀ l : List Int, NestedKey.depthAll (l.map .num) = 0
  | [] => rfl
  | x :: l => by show max 0 (NestedKey.depthAll (l.map .num)) = 0; rw [depth_nums l]; rfl
theorem nk_depth (k : NK) : (nk k).depth ≤ 8 := by
  show max 0 (max (NestedKey.depthAll (k.2.map .num) + 1) 0) + 1 ≤ 8
  rw [depth_nums]
  decide
/-- the tuple (kind, numbers) -/
def NkAt (H : Hp) (k : NK) (a : Addr) : Prop := ∃ b, H a = some (.tup [.str k.1, .ref b]) ∧ H b = some (.tup (k.2.map V.int))
abbrev NL : Type := List (NK × Addr × V)
def atN (L : NL) (k : NK) : Option V := (L.find? fun x => decide (x.1 = k)).map (·.2.2)
def putN (L : NL) (k : NK) (a : Addr) (v : V) : NL := if (atN L k).isSome then L.map (fun x => if x.1 = k then (x.1, x.2.1, v) else x) else L ++ [(k, a, v)]
def NdR (P : Program) (w : World) (h : Heap) (a : Addr) (L : NL) : Prop := L.length ≤ sizeLine ∧ (a == sysModules) = false ∧ ∃ xs : List (NestedKey × Addr × Value),
  Paired (fun (p : NK × Addr × V) (q : NestedKey × Addr × Value) => q.1 = nk p.1 ∧ q.2.1 = p.2.1 ∧ RelV p.2.2 q.2.2) L xs ∧ ∃ o es ep, h.get? a = some o ∧ o.ExactDict ∧ o.data = .dict es ep ∧ es.toList = xs.map (entryOfKey (nestedKind P w)) ∧ (xs.map (·.1)).Nodup
def NdO (P : Program) (w : World) (a : Addr) (L : NL) : HO := .ext fun h => NdR P w h a L
section
variable {P : Program} {w : World} {H : Hp} {h : Heap} {a : Addr} {L : NL}
theorem ndO_new (R : NdR P w h a L) : ObjOk P w H h a (NdO P w a L) := by
  refine ⟨R, ?_, fun h1 h2 r k => ?_⟩
  · obtain ⟨_, _, _, _, o, _, _, e, _⟩ := R
    exact ⟨o, e⟩
  · obtain ⟨z, y, xs, rel, o, es, ep, e, c⟩ := r
    exact ⟨z, y, xs, rel, o, es, ep, k o e, c⟩
theorem nums_are {h : Heap} : ∀ {ns : List Int} {us : List Value}, Vals (ns.map V.int) us → NestedAll h (ns.map .num) us
  | [], _, .nil => .nil
  | n :: ns, _, .cons r t => by
    obtain ⟨k, rfl⟩ := r
    exact .cons (.int n k) (nums_are t)
theorem nk_is (ok : HOk P w H h) {k : NK} (e : NkAt H k a) : (nestedKind P w).is h (nk k) a := by
  obtain ⟨b, e1, e2⟩ := e
  obtain ⟨_, its, r, o, h1, h2, n, h3⟩ := (show ObjOk P w H h a (.tup [.str k.1, .ref b]) from ok a _ e1)
  obtain ⟨_, its2, r2, o2, k1, k2, n2, k3⟩ := (show ObjOk P w H h b (.tup (k.2.map V.int)) from ok b _ e2)
  refine ⟨?_, nk_depth k⟩
  cases r with
  | cons ra r =>
    cases r with
    | cons rb r =>
      cases r
      obtain ⟨t, rfl⟩ := ra
      cases rb
      exact .tup h1 h2 h3 (.cons (.text k.1 t) (.cons (.tup k1 k2 k3 (by simpa using nums_are r2)) .nil))
abbrev NRel (p : NK × Addr × V) (q : NestedKey × Addr × Value) : Prop := q.1 = nk p.1 ∧ q.2.1 = p.2.1 ∧ RelV p.2.2 q.2.2
theorem rel_at : ∀ {L : NL} {xs : List (NestedKey × Addr × Value)}, Paired NRel L xs → ∀ k, RelO (atN L k) ((atKey xs (nk k)).map (·.2))
  | _, _, .nil, k => True.intro
  | p :: L, q :: xs, .cons r t, k => by
    have ih := rel_at t k
    unfold atN atKey
    rw [List.find?_cons, List.find?_cons]
    by_cases e : p.1 = k
    · rw [decide_eq_true e, decide_eq_true (show q.1 = nk k by rw [r.1, e])]
      exact r.2.2
    · rw [decide_eq_false e, decide_eq_false (show ¬ q.1 = nk k by rw [r.1]; exact fun z => e (nk_inj z))]
      exact ih
theorem rel_isSome {o : Option V} {u : Option Value} (r : RelO o u) : o.isSome = u.isSome := by
  cases o <;> cases u <;> first | rfl | cases r
theorem rel_put {L : NL} {xs : List (NestedKey × Addr × Value)} (r : Paired NRel L xs) {k : NK} {a : Addr} {v : V} {u : Value} (rv : RelV v u) : Paired NRel (putN L k a v) (storedH xs (nk k) a u) := by
  have e := rel_isSome (rel_at r k)
  rw [Option.isSome_map] at e
  unfold putN storedH
  rw [← e]
  cases h : (atN L k).isSome with
  | true =>
    show Paired NRel (L.map _) (xs.map _)
    clear e h
    induction r with
    | nil => exact .nil
    | @cons p q L xs r t ih =>
      refine .cons ?_ ih
      unfold putAt
      show NRel (if p.1 = k then (p.1, p.2.1, v) else p) _
      by_cases e : p.1 = k
      · rw [if_pos e, if_pos (show q.1 = nk k by rw [r.1, e])]
        exact ⟨r.1, r.2.1, rv⟩
      · rw [if_neg e, if_neg (show ¬ q.1 = nk k by rw [r.1]; exact fun z => e (nk_inj z))]
        exact r
  | false =>
    show Paired NRel (L ++ _) (xs ++ _)
    clear e h
    induction r with
    | nil => exact .cons ⟨rfl, rfl, rv⟩ .nil
    | cons r t ih => exact .cons r ih
theorem len_put (L : NL) (k : NK) (a : Addr) (v : V) : (putN L k a v).length ≤ L.length + 1 := by
  unfold putN
  split
  · rw [List.length_map]; omega
  · simp
/-- all keys stand -/
def NkAll (H : Hp) (L : NL) : Prop := ∀ p ∈ L, NkAt H p.1 p.2.1
theorem mem_put {L : NL} {k : NK} {a : Addr} {v : V} {p : NK × Addr × V} (h : p ∈ putN L k a v) : p ∈ L ∨ p = (k, a, v) ∨ (p.1 = k ∧ p.2.2 = v ∧ ∃ u, (k, p.2.1, u) ∈ L) := by
  unfold putN at h
  split at h
  · obtain ⟨x, hx, rfl⟩ := List.mem_map.mp h
    by_cases e : x.1 = k
    · rw [if_pos e]
      refine .inr (.inr ⟨e, rfl, x.2.2, ?_⟩)
      show (k, x.2.1, x.2.2) ∈ L
      rw [← e]
      exact hx
    · rw [if_neg e]
      exact .inl hx
  · rcases List.mem_append.mp h with h | h
    · exact .inl h
    · exact .inr (.inl (List.mem_singleton.mp h))
theorem keys_put {H : Hp} {L : NL} {k : NK} {a : Addr} {v : V} (h : NkAll H L) (e : NkAt H k a) : NkAll H (putN L k a v) := fun p hp => by
  rcases mem_put hp with h1 | rfl | ⟨h1, _, u, h3⟩
  · exact h p h1
  · exact e
  · rw [h1]
    exact h _ h3
theorem nd_of (ok : HOk P w H h) (e : H a = some (NdO P w a L)) (ka : NkAll H L) : L.length ≤ sizeLine ∧ (a == sysModules) = false ∧ ∃ xs, Paired NRel L xs ∧ h.DictOfH (nestedKind P w) a xs := by
  obtain ⟨z, y, xs, r, o, es, ep, h1, h2, h3, h4, h5⟩ := (ok a _ e).1
  refine ⟨z, y, xs, r, o, es, ep, h1, h2, h3, h4, fun x hx => ?_, h5⟩
  have all : ∀ {l : NL} {m : List (NestedKey × Addr × Value)}, Paired NRel l m → NkAll H l → ∀ x ∈ m, (nestedKind P w).is h x.1 x.2.1 := by
    intro l m q
    induction q with
    | nil => intro _ x hx; exact nomatch hx
    | @cons p q ps qs hq t ih =>
      intro ka x hx
      rcases List.mem_cons.mp hx with e | hx
      · subst e
        rw [hq.1, hq.2.1]
        exact nk_is ok (ka p (List.mem_cons_self ..))
      · exact ih (fun y hy => ka y (List.mem_cons_of_mem _ hy)) x hx
  exact all r ka x hx
end
/-- what d holds at a key -/
def NGet (P : Program) (w : World) (H : Hp) (a : Addr) (y : V) (r : Option V) : Prop := ∃ L k b, H a = some (NdO P w a L) ∧ NkAll H L ∧ y = .ref b ∧ NkAt H k b ∧ r = atN L k
def NPut (P : Program) (w : World) (H : Hp) (a : Addr) (y v : V) (H' : Hp) : Prop := ∃ L k b, H a = some (NdO P w a L) ∧ NkAll H L ∧ y = .ref b ∧ NkAt H k b ∧ L.length < sizeLine ∧ H' = upd H a (NdO P w a (putN L k b v))
section
variable {X : Cx} {pins : List (Addr × Obj)} {σ : L2.St} {H : Hp} {s : Shared} {a : Addr} {y v : V} {u r : Value} {o : Option V} {A : Around} {E : Value → Shared → Prop}
theorem room8 (hu : A.units + 64 < cLine) : (nestedKind X.prog X.w).room A.in1 := by
  show A.units + 1 + 8 < cLine
  omega
theorem n_getItem {Q : Value → Shared → Prop} (hu : A.units + 64 < cLine) (I : Inv X pins σ H s) (g : NGet X.prog X.w H a y (some v)) (ry : RelV y u) (h : ∀ w' s', Inv X pins σ H s' → RelV v w' → Q w' s') :
    wpAny (model X.prog X.w) A (getItem (.ref a) u) Q E s := by
  obtain ⟨L, k, b, e, ka, rfl, eb, l⟩ := g
  cases (show u = Value.ref b from ry)
  obtain ⟨z, hd, xs, rel, dd⟩ := nd_of I.hok e ka
  have q := rel_at rel k
  rw [← l] at q
  cases hk : (atKey xs (nk k)) with
  | none => rw [hk] at q; cases q
  | some p =>
    rw [hk] at q
    exact wpAny_getItem_heap (room8 (X := X) hu) (nk_is I.hok eb) dd hk (h _ _ (I.tok _) q)
theorem n_in {Q : Value → Shared → Prop} (hu : A.units + 64 < cLine) (I : Inv X pins σ H s) (g : NGet X.prog X.w H a y o) (ry : RelV y u) (h : ∀ s', Inv X pins σ H s' → Q (.bool o.isSome) s') :
    wpAny (model X.prog X.w) A (compareOp .In u (.ref a)) Q E s := by
  obtain ⟨L, k, b, e, ka, rfl, eb, rfl⟩ := g
  cases (show u = Value.ref b from ry)
  obtain ⟨z, hd, xs, rel, dd⟩ := nd_of I.hok e ka
  refine wpAny_in_heap (room8 (X := X) hu) (nk_is I.hok eb) hd dd ?_
  have q := rel_isSome (rel_at rel k)
  rw [Option.isSome_map] at q
  rw [← q]
  exact h _ (I.tok _)
theorem n_notIn {Q : Value → Shared → Prop} (hu : A.units + 64 < cLine) (I : Inv X pins σ H s) (g : NGet X.prog X.w H a y o) (ry : RelV y u) (h : ∀ s', Inv X pins σ H s' → Q (.bool (!o.isSome)) s') :
    wpAny (model X.prog X.w) A (compareOp .NotIn u (.ref a)) Q E s := by
  obtain ⟨L, k, b, e, ka, rfl, eb, rfl⟩ := g
  cases (show u = Value.ref b from ry)
  obtain ⟨z, hd, xs, rel, dd⟩ := nd_of I.hok e ka
  refine wpAny_notIn_heap (room8 (X := X) hu) (nk_is I.hok eb) hd dd ?_
  have q := rel_isSome (rel_at rel k)
  rw [Option.isSome_map] at q
  rw [← q]
  exact h _ (I.tok _)
theorem n_setItem {H' : Hp} {Q : Unit → Shared → Prop} (hu : A.units + 64 < cLine) (I : Inv X pins σ H s) (g : NPut X.prog X.w H a y v H') (ry : RelV y u) (rv : RelV v r) (h : ∀ s', Inv X pins σ H' s' → Q () s') :
    wpAny (model X.prog X.w) A (setItem (.ref a) u r) Q E s := by
  obtain ⟨L, k, b, e, ka, rfl, eb, l, rfl⟩ := g
  cases (show u = Value.ref b from ry)
  obtain ⟨z, hd, xs, rel, dd⟩ := nd_of I.hok e ka
  have hz : xs.length ≤ sizeLine := by rw [← Paired.length rel]; exact z
  have hl : (putN L k b v).length ≤ sizeLine := by have := len_put L k b v; omega
  refine wpAny_setItem_heap (hsz := hz) (room8 (X := X) hu) (nk_is I.hok eb) dd fun h' dd' hs => h _ ?_
  obtain ⟨q, es, ep, hq, h2, h3, h4, _, h5⟩ := dd'
  exact d_write I (by rw [e]; exact True.intro) hs ⟨q, hq⟩ (ndO_new ⟨hl, hd, _, rel_put rel rv, q, es, ep, hq, h2, h3, h4, h5⟩)
theorem n_typeIs (I : Inv X pins σ H s) (g : NGet X.prog X.w H a y o) : s.TypeIs (.ref a) "dict" := by
  obtain ⟨L, k, b, e, ka, _⟩ := g
  obtain ⟨_, _, xs, _, dd⟩ := nd_of I.hok e ka
  exact dd.typeIs
end
def tNGet (P : Program) (w : World) (td ty : TE) : TE := fun σ H Q => td σ H fun x H1 => ty σ H1 fun y H2 => ∃ a v, x = .ref a ∧ NGet P w H2 a y (some v) ∧ Q v H2
def tNIn (P : Program) (w : World) (ty td : TE) : TE := fun σ H Q => ty σ H fun y H1 => td σ H1 fun x H2 => ∃ a o, x = .ref a ∧ NGet P w H2 a y o ∧ Q (.bl o.isSome) H2
def tNNotIn (P : Program) (w : World) (ty td : TE) : TE := fun σ H Q => ty σ H fun y H1 => td σ H1 fun x H2 => ∃ a o, x = .ref a ∧ NGet P w H2 a y o ∧ Q (.bl (!o.isSome)) H2
def sNPut (P : Program) (w : World) (td ty tv : TE) : TS := fun D σ H => tv σ H fun v H1 => td σ H1 fun x H2 => ty σ H2 fun y H3 => ∃ a H4, x = .ref a ∧ NPut P w H3 a y v H4 ∧ D.nx σ H4
def tNNew (P : Program) (w : World) : TE := fun _ H Q => ∀ p, H p = none → Q (.ref p) (upd H p (NdO P w p []))
section
variable {X : Cx} {o i e value : Expr} {pos pos' tpos : Pos} {td ty tv : TE}
theorem pe_nget (hu : X.A.units + 64 < cLine) (ho : PE X o td) (hi : PE X i ty) (hs : NoSl i) : PE X (.Subscript o i pos) (tNGet X.prog X.w td ty) := by
  refine ⟨fun pins s σ H Q I h => ?_⟩
  refine subD_of PySem.F.slot_dict_getitem.lookup hs (thn (ho.run pins s σ H _ I h) fun u s1 ⟨x, H1, I1, rx, q1⟩ => thn (hi.run pins s1 σ H1 _ I1 q1) fun iv s2 ⟨y, H2, I2, ry, a, v, ex, g, q2⟩ => ?_)
  subst ex
  obtain rfl : u = Value.ref a := rx
  exact ⟨n_typeIs I2 g, n_getItem hu I2 g ry fun w' s3 I3 rw' => ⟨v, H2, I3, rw', q2⟩⟩
theorem pc_nin (hu : X.A.units + 64 < cLine) (hi : PE X i ty) (ho : PE X o td) : PC X .In i o (tNIn X.prog X.w ty td) := by
  refine ⟨fun pins s σ H Q I h => ?_⟩
  refine thn (hi.run pins s σ H _ I h) fun iv s1 ⟨y, H1, I1, ry, q1⟩ => thn (ho.run pins s1 σ H1 _ I1 q1) fun u s2 ⟨x, H2, I2, rx, a, ov, ex, g, q2⟩ => ?_
  subst ex
  obtain rfl : u = Value.ref a := rx
  exact n_in hu I2 g ry fun s3 I3 => ⟨.bl ov.isSome, H2, I3, rfl, q2⟩
theorem pc_nnotin (hu : X.A.units + 64 < cLine) (hi : PE X i ty) (ho : PE X o td) : PC X .NotIn i o (tNNotIn X.prog X.w ty td) := by
  refine ⟨fun pins s σ H Q I h => ?_⟩
  refine thn (hi.run pins s σ H _ I h) fun iv s1 ⟨y, H1, I1, ry, q1⟩ => thn (ho.run pins s1 σ H1 _ I1 q1) fun u s2 ⟨x, H2, I2, rx, a, ov, ex, g, q2⟩ => ?_
  subst ex
  obtain rfl : u = Value.ref a := rx
  exact n_notIn hu I2 g ry fun s3 I3 => ⟨.bl (!ov.isSome), H2, I3, rfl, q2⟩
theorem ps_nput (hu : X.A.units + 64 < cLine) (ho : PE X o td) (hi : PE X i ty) (hv : PE X value tv) (hs : swapsWith value (some (.Subscript o i pos')) pos.line X.env = pure false) :
    PS X (.Assign [.Subscript o i pos'] value pos) (sNPut X.prog X.w td ty tv) := by
  refine ⟨fun pins s σ H D I h => ?_⟩
  refine wpAny_Assign_Subscript (thn (hv.run pins s σ H _ I h) fun r s1 ⟨v, H1, I1, rv, q1⟩ => thn (ho.run pins s1 σ H1 _ I1 q1) fun u s2 ⟨x, H2, I2, rx, q2⟩ => thn (hi.run pins s2 σ H2 _ I2 q2) fun iv s3 ⟨y, H3, I3, ry, a, H4, ex, g, q3⟩ => ?_) hs
  subst ex
  obtain rfl : u = Value.ref a := rx
  exact n_setItem hu I3 g ry rv fun s4 I4 => ⟨σ, H4, I4, q3⟩
theorem nd_empty {P : Program} {w : World} {H : Hp} (h : Heap) (hb : sysModules < h.objs.size) : ObjOk P w H (h.push { cls := .type "dict", data := .dict #[] }) h.objs.size (NdO P w h.objs.size []) :=
  ndO_new ⟨Nat.zero_le _, beq_eq_false_iff_ne.mpr (Ne.symm (Nat.ne_of_lt hb)), [], .nil, _, #[], 0, Heap.get?_push_size _ rfl, ⟨rfl, rfl, rfl⟩, rfl, rfl, List.nodup_nil⟩
theorem pe_nnew : PE X (.Dict [] [] pos) (tNNew X.prog X.w) := ⟨fun pins s σ H Q I h =>
  wpAny_Dict_empty ⟨.ref s.heap.objs.size, _, I.laid (a := s.heap.objs.size) (o := NdO X.prog X.w s.heap.objs.size []) (t' := s.toks) (fun _ _ q => Heap.get?_push_of_some _ q) (Nat.le_refl _) (nd_empty s.heap I.big), rfl, h _ (I.hok.fresh (Nat.le_refl _))⟩⟩
end
/-! ### min(xs, default=None) -/
def rMinD (K : PySem.W.Frag) : List V → List V → Hp → VK → Prop := fun vs zs H Q => ∃ (a : Addr) (ns : List Int) (z : V), vs = [V.ref a] ∧ zs = [z] ∧ SqL K H a (ns.map V.int) ∧ (ns = [] → Q z H) ∧ ∀ m, m ∈ ns → (∀ y, y ∈ ns → m ≤ y) → Q (.int m) H
theorem min_is (x : Int) (xs : List Int) : PySem.W.minOf x xs ∈ x :: xs ∧ ∀ y ∈ x :: xs, PySem.W.minOf x xs ≤ y := by
  have g : ∀ (l : List Int) (a : Int), (l.foldl (fun a y => if PySem.W.DatumOrd.lt y a = true then y else a) a ∈ a :: l) ∧ ∀ y ∈ a :: l, l.foldl (fun a y => if PySem.W.DatumOrd.lt y a = true then y else a) a ≤ y := by
    intro l
    induction l with
    | nil => exact fun a => ⟨List.mem_cons_self .., fun y m => by rw [List.mem_singleton.mp m]; exact Int.le_refl _⟩
    | cons z l ih =>
      intro a
      have e : PySem.W.DatumOrd.lt z a = decide (z < a) := rfl
      show (l.foldl _ (if PySem.W.DatumOrd.lt z a = true then z else a) ∈ a :: z :: l) ∧ ∀ y ∈ a :: z :: l, l.foldl _ (if PySem.W.DatumOrd.lt z a = true then z else a) ≤ y
      by_cases h : z < a
      · rw [e, if_pos (decide_eq_true h)]
        obtain ⟨h1, h2⟩ := ih z
        refine ⟨List.mem_cons_of_mem _ h1, fun y m => ?_⟩
        rcases List.mem_cons.mp m with rfl | m
        · exact Int.le_trans (h2 z (List.mem_cons_self ..)) (Int.le_of_lt h)
        · exact h2 y m
      · rw [e, if_neg (by simpa using h)]
        obtain ⟨h1, h2⟩ := ih a
        refine ⟨?_, fun y m => ?_⟩
        · rcases List.mem_cons.mp h1 with h1 | h1
          · rw [h1]; exact List.mem_cons_self ..
          · exact List.mem_cons_of_mem _ (List.mem_cons_of_mem _ h1)
        · rcases List.mem_cons.mp m with rfl | m
          · exact h2 y (List.mem_cons_self ..)
          · rcases List.mem_cons.mp m with rfl | m
            · exact Int.le_trans (h2 a (List.mem_cons_self ..)) (Int.not_lt.mp h)
            · exact h2 y (List.mem_cons_of_mem _ m)
  exact g xs x
theorem cr_minD {X : Cx} (hc : X.calm = true) (hu : X.A.units + 64 < cLine) : CallRK X (.builtin "min") [Str.ofString "default"] (rMinD X.K) := by
  intro pins s σ H vs zs us ws Q I r rz h
  obtain ⟨a, ns, z, rfl, rfl, hs, q0, q⟩ := h
  obtain ⟨its, rv, hl, _⟩ := I.list hs
  rw [Vals.ref1 r]
  obtain ⟨wz, rfl, rw1⟩ := rz.one
  refine PySem.W.min_list_datum_default (α := Int) (xs := ns) (I.ok.hd hc) hl.isList (PySem.W.HoldAll.of_ints (by simpa using rv.ints)) ?_ (fun e h' tk hk => ⟨z, H, I.kept hk, rw1, q0 e⟩) fun y ys i v h' tk e hi hv hk => ?_
  · show X.A.units + 1 + PySem.W.Datum.depth Int < cLine
    have : PySem.W.Datum.depth Int ≤ 60 := by decide
    omega
  · obtain ⟨t, rfl⟩ := PySem.W.int_of_holds hv
    obtain ⟨h1, h2⟩ := min_is y ys
    subst e
    exact ⟨.int _, H, I.kept hk, ⟨t, rfl⟩, q _ h1 h2⟩
/-! ### len(set(xs)) -/
theorem first_in (val : Nat → Int) : ∀ i, (PyProof.Rows.firstMet val i).Nodup ∧ ∀ x ∈ PyProof.Rows.firstMet val i, ∃ j, j < i ∧ val j = x
  | 0 => ⟨List.nodup_nil, fun x h => nomatch h⟩
  | i + 1 => by
    obtain ⟨h1, h2⟩ := first_in val i
    rw [PyProof.Rows.firstMet_succ]
    show (if (PyProof.Rows.firstMet val i).any (· == val i) then PyProof.Rows.firstMet val i else PyProof.Rows.firstMet val i ++ [val i]).Nodup ∧ _
    have e : PyProof.Rows.step_dedup (PyProof.Rows.firstMet val i) (val i) = if (PyProof.Rows.firstMet val i).any (· == val i) then PyProof.Rows.firstMet val i else PyProof.Rows.firstMet val i ++ [val i] := rfl
    rw [e]
    split
    · exact ⟨h1, fun x hx => by obtain ⟨j, hj, ej⟩ := h2 x hx; exact ⟨j, by omega, ej⟩⟩
    · rename_i no
      refine ⟨List.nodup_append.mpr ⟨h1, List.nodup_cons.mpr ⟨fun z => (nomatch z), List.nodup_nil⟩, fun x hx y hy => ?_⟩, fun x hx => ?_⟩
      · rw [List.mem_singleton.mp hy]
        rintro rfl
        exact no (List.any_eq_true.mpr ⟨_, hx, beq_self_eq_true _⟩)
      · rcases List.mem_append.mp hx with hx | hx
        · obtain ⟨j, hj, ej⟩ := h2 x hx
          exact ⟨j, by omega, ej⟩
        · exact ⟨i, by omega, (List.mem_singleton.mp hx).symm⟩
def tLenSet (K : PySem.W.Frag) (ta : TE) : TE := fun σ H Q => ta σ H fun x H1 => ∃ (l : Addr) (ns : List Int), x = .ref l ∧ SqL K H1 l (ns.map V.int) ∧ ns.length ≤ 4000 ∧ ∀ m : List Int, m.Nodup → (∀ x ∈ m, x ∈ ns) → Q (.int (m.length : Nat)) H1
theorem pe_lenSet {X : Cx} {a : Expr} {ta : TE} {p p2 q pos : Pos} (hc : X.calm = true) (hg : Gl X "len") (hm : X.mg "len" = none) (hg2 : Gl X "set") (hm2 : X.mg "set" = none) (ha : PE X a ta)
    (na : starEach [a] X.env = (false, eval a X.env) :: starEach [] X.env := by rfl) : PE X (.Call (.Name "len" p) [.Call (.Name "set" p2) [a] [] q] [] pos) (tLenSet X.K ta) := by
  refine ⟨fun pins s σ H Q I h => ?_⟩
  refine Call_ (ld_blt I hg hm boot_len ?_)
  refine PyProof.Rows.callWith_builtin1 (PyProof.Rows.args_cons ?_ rfl) rfl rfl
  refine Call_ (ld_blt I hg2 hm2 boot_set ?_)
  refine PyProof.Rows.callWith_type1 (PyProof.Rows.args_cons (thn (ha.run pins s σ H _ I h) fun v s1 ⟨x, H1, I1, r1, q1⟩ => PyProof.Rows.args_nil ?_) na) na rfl
  obtain ⟨l, ns, rfl, hq, hl, q1⟩ := q1
  cases r1
  obtain ⟨its, r, pl, hz⟩ := I1.list hq
  have hlen : its.toArray.size = ns.length := by rw [List.size_toArray, ← r.length, List.length_map]
  refine call_set_list (I1.ok.hd hc) pl.isList (by simpa using RZ.intsAre_vals r) (by rw [hlen]; unfold scanBound; omega) fun h' tk hS hk => ?_
  refine PyProof.Rows.args_nil ?_
  rw [hlen] at hS
  obtain ⟨n1, n2⟩ := first_in (fun i => ns.getD i 0) ns.length
  have n3 := PyProof.Rows.firstMet_length_le (fun i => ns.getD i 0) ns.length
  generalize PyProof.Rows.firstMet (fun i => ns.getD i 0) ns.length = m at hS n1 n2 n3
  obtain ⟨o, es, ep, t, ho, hex, hd, _, _, _, hf, hn⟩ := hS
  have I2 : Inv X pins σ H1 { s1 with heap := h', toks := tk } := I1.kept fun b o e => hk b o (Heap.lt_size e) e
  refine call_len_set ho hex hd hf (by rw [hn] <;> omega) ⟨.int m.length, H1, I2.tok _, ⟨_, by rw [hn]⟩, q1 m n1 fun x hx => ?_⟩
  obtain ⟨j, hj, rfl⟩ := n2 x hx
  rw [List.getD_eq_getElem?_getD, List.getElem?_eq_getElem hj]
  exact List.getElem_mem hj
/-! ### a maker with a default -/
def DMd (K : PySem.W.Frag) (C m qual : Str) (st : Stmt) (dv : V) : Prop := ∃ fd, FunD K m qual (defArgs st) (defBody st) (defScope st) [dv] [] (He.ma K (He.ga K C) m) fd
structure CalId (P : Program) (w : World) (K : PySem.W.Frag) (mg : Str → Option Value) (base : Heap) (k : Nat) (x : Str) (C : Addr) (dv : V) (sp : Sp) : Prop where
  ex : ∃ (fd : FuncData) (ps : List Str), FnOk P w K mg base CX0 k (He.ma K C "__init__") fd ps sp ∧ Mk K C (He.ma K C "__init__") ∧ mg x = some (.ref C) ∧ Binds K fd ps [] ∧ ∃ ds, Vals [dv] ds ∧ Binds K fd ps ds
section
variable {P : Program} {w : World} {K : PySem.W.Frag} {mg : Str → Option Value} {base : Heap}
theorem calId_mk {C qual : Str} {st : Stmt} {N ps : List Str} {k n : Nat} {dv : V} {sp : Sp} {t : TS} (M : Mk K (He.ga K C) (He.ma K (He.ga K C) "__init__")) (g : mg C = some (.ref (He.ga K C))) (D : DMd K C "__init__" qual st dv) (S : FnScope N ps (defScope st))
    (hb0 : ∀ (T : Addr) (kV doc pm : Value) (an : Option Addr) (cdv ct : Value) (us its : List Value), us.length = n + 1 → its.length = 1 → ∃ k, bindArgs (PySem.W.fnOf "__init__" qual (defArgs st) (defBody st) (defScope st) (.ref T) kV doc pm an cdv ct) ⟨us, []⟩ = seqItems? (.ref T) >>= k ∧ k (some its.toArray) = pure (ps.zip (us ++ its.drop 1)))
    (hb1 : ∀ (T : Addr) (kV doc pm : Value) (an : Option Addr) (cdv ct : Value) (us its : List Value), us.length = n → its.length = 1 → ∃ k, bindArgs (PySem.W.fnOf "__init__" qual (defArgs st) (defBody st) (defScope st) (.ref T) kV doc pm an cdv ct) ⟨us, []⟩ = seqItems? (.ref T) >>= k ∧ k (some its.toArray) = pure (ps.zip (us ++ its.drop 0)))
    (hn : n + 1 = ps.length) (len : ∀ vs H Q E, sp vs H Q E → vs.length = ps.length)
    (hd : ∀ (f : Addr) (cdv : Value) (A : Around) (outer : List Env) (s : Shared) (H : Hp) (E : XK), Room k (A.deeper (envOfC qual (defScope st) s.heap.objs.size f cdv)) → PSs (cxOf CX0 P w K mg base N qual (defScope st) f cdv A outer s H E).nox (defBody st) t)
    (hv : ∀ vs H Q E, sp vs H Q E → t { nx := fun _ H' => Q .non H', rt := Q } (start N vs) H) : CalId P w K mg base (k + 1) C (He.ga K C) dv sp := by
  obtain ⟨fd, F⟩ := D
  have ok := F.ok S len fun cdv A outer s H vs Q E hr h => ⟨t, PSs.nox (hd _ cdv A outer s H E hr), hv vs H Q E h⟩
  obtain ⟨d0, r0, b0⟩ := F.binds1 (n + 1) 1 (by simp) (by simpa using hn) hb0
  obtain ⟨d1, r1, b1⟩ := F.binds1 n 0 (by simp) (by simpa using hn) hb1
  cases r0
  exact ⟨fd, ps, ok, M, g, b0, d1, r1, b1⟩
end
section
variable {X : Cx} {k j : Nat} {x m : Str} {C : Addr} {dv : V} {sp : Sp} {p pos apos : Pos} {e o : Expr} {es : List Expr} {t : TA} {ta : TE}
theorem pe_id (c : CalId X.prog X.w X.K X.mg X.base k x C dv sp) (hr : Room j X.A) (hk : k + 1 ≤ j) (hg : Gl X x) (ha : PA X (e :: es) t)
    (hdb : (x == ("__debug__" : Str)) = false := by decide) (h1 : starEach (e :: es) X.env = (false, eval e X.env) :: starEach es X.env := by rfl) (h2 : (backTo pos (starEach es X.env)).any (·.1) = false := by rfl) :
    PE X (.Call (.Name x p) (e :: es) [] pos) (tMake C sp [] E0 t) := by
  obtain ⟨fd, ps, F, M, hm, b, _⟩ := c.ex
  exact pe_make M F (hr.mono hk) hg hm b .nil pass0 ha hdb h1 h2
theorem pe_id0 (c : CalId X.prog X.w X.K X.mg X.base k x C dv sp) (hr : Room j X.A) (hk : k + 1 ≤ j) (hg : Gl X x) (hdb : (x == ("__debug__" : Str)) = false := by decide) :
    PE X (.Call (.Name x p) [] [] pos) (tMake C sp [dv] E0 tNil) := by
  obtain ⟨fd, ps, F, M, hm, _, ds, rd, b⟩ := c.ex
  exact pe_make0 M F (hr.mono hk) hg hm b rd pass0 hdb
end
theorem min2_is (i j : Int) : nuMin2 (.int i) (.int j) = some (.int (if j < i then j else i)) := by
  have e : nuLt (.int j) (.int i) = some (decide (j < i)) := rfl
  unfold nuMin2
  rw [e]
  by_cases h : j < i
  · rw [if_pos h, decide_eq_true h]; rfl
  · rw [if_neg h, decide_eq_false h]; rfl
/-! ### steps -/
theorem z_min3 {i j k : Int} {H : Hp} {Q : VK} (q : ∀ m, (m = i ∨ m = j ∨ m = k) → m ≤ i → m ≤ j → m ≤ k → Q (.int m) H) : rNuC3 nuMin3 [.int i, .int j, .int k] H Q := by
  refine ⟨.int i, .int j, .int k, .int (if k < (if j < i then j else i) then k else (if j < i then j else i)), rfl, ?_, q _ ?_ ?_ ?_ ?_⟩
  · show (nuMin2 (.int i) (.int j)).bind (fun m => nuMin2 m (.int k)) = _
    rw [min2_is]
    exact min2_is _ _
  · by_cases h : j < i
    · simp only [if_pos h]; split <;> simp
    · simp only [if_neg h]; split <;> simp
  all_goals split <;> split <;> omega
section
variable {P : Program} {w : World} {K : PySem.W.Frag} {σ : L2.St} {H : Hp} {Q : VK} {D : Ends} {ta td ty tv : TE} {t tk : TA} {C : Addr} {dv : V} {sp : Sp}
theorem z_maked (q : t σ H fun vs H1 => ∀ x dx, H1 x = none → H1 dx = none → dx ≠ x → sp (.ref x :: (vs ++ [dv])) (upd (upd H1 dx (.own x)) x (.ins C dx [])) (fun v H2 => v = .non ∧ Q (.ref x) H2) E0) : tMake C sp [dv] E0 t σ H Q := q
theorem z_nget (q : td σ H fun x H1 => ty σ H1 fun y H2 => ∃ a v, x = .ref a ∧ NGet P w H2 a y (some v) ∧ Q v H2) : tNGet P w td ty σ H Q := q
theorem z_nnotin (q : ty σ H fun y H1 => td σ H1 fun x H2 => ∃ a o, x = .ref a ∧ NGet P w H2 a y o ∧ Q (.bl (!o.isSome)) H2) : tNNotIn P w ty td σ H Q := q
theorem z_nput (q : tv σ H fun v H1 => td σ H1 fun x H2 => ty σ H2 fun y H3 => ∃ a H4, x = .ref a ∧ NPut P w H3 a y v H4 ∧ D.nx σ H4) : sNPut P w td ty tv D σ H := q
theorem z_nnew (q : ∀ p, H p = none → Q (.ref p) (upd H p (NdO P w p []))) : tNNew P w σ H Q := q
theorem z_tnewT (q : ∀ p, H p = none → Q (.ref p) (upd H p (.dT []))) : tDNewT σ H Q := q
theorem z_lenset (q : ta σ H fun x H1 => ∃ (l : Addr) (ns : List Int), x = .ref l ∧ SqL K H1 l (ns.map V.int) ∧ ns.length ≤ 4000 ∧ ∀ m : List Int, m.Nodup → (∀ x ∈ m, x ∈ ns) → Q (.int (m.length : Nat)) H1) : tLenSet K ta σ H Q := q
theorem z_ckw {r : List V → List V → Hp → VK → Prop} (q : t σ H fun vs H1 => tk σ H1 fun zs H2 => r vs zs H2 Q) : tCKw r t tk σ H Q := q
end
end ZDN

set_option linter.all false
set_option maxHeartbeats 1000000
namespace M01
def bitsN : Nat → Nat → List Nat
  | 0, _ => []
  | n + 1, w => (w % 2) :: bitsN n (w / 2)
def numN : List Nat → Nat
  | [] => 0
  | b :: r => b + 2 * numN r
theorem pow_s (n : Nat) : 2 ^ (n + 1) = 2 * 2 ^ n := by rw [Nat.pow_succ, Nat.mul_comm]
theorem mod_s (x n : Nat) : x % 2 ^ (n + 1) = x % 2 + 2 * (x / 2 % 2 ^ n) := by rw [pow_s, Nat.mod_mul]
theorem bits_len : ∀ n w, (bitsN n w).length = n
  | 0, _ => rfl
  | n + 1, w => by rw [bitsN, List.length_cons, bits_len n]
theorem num_bits : ∀ n w, numN (bitsN n w) = w % 2 ^ n
  | 0, w => by rw [bitsN, numN, Nat.pow_zero, Nat.mod_one]
  | n + 1, w => by rw [bitsN, numN, num_bits n, mod_s]
theorem bits_lt : ∀ n w, ∀ b ∈ bitsN n w, b < 2
  | 0, _, b, h => by simp [bitsN] at h
  | n + 1, w, b, h => by
    rw [bitsN, List.mem_cons] at h
    rcases h with rfl | h
    · exact Nat.mod_lt _ (by decide)
    · exact bits_lt n _ b h
theorem num_app : ∀ (xs ys : List Nat), numN (xs ++ ys) = numN xs + 2 ^ xs.length * numN ys
  | [], ys => by simp [numN]
  | x :: xs, ys => by
    rw [List.cons_append, numN, numN, num_app xs, List.length_cons, pow_s, Nat.mul_add, Nat.mul_assoc, Nat.add_assoc]
theorem bits_inj {n a b : Nat} (ha : a < 2 ^ n) (hb : b < 2 ^ n) (h : bitsN n a = bitsN n b) : a = b := by
  have e := congrArg numN h
  rw [num_bits, num_bits, Nat.mod_eq_of_lt ha, Nat.mod_eq_of_lt hb] at e
  exact e
/-- sign by sign -/
theorem zip_num (f : Nat → Nat → Nat) (g : Nat → Nat → Nat) (h2 : ∀ a b, g a b / 2 = g (a / 2) (b / 2)) (h1 : ∀ a b, g a b % 2 = f (a % 2) (b % 2)) :
    ∀ n a b, numN (List.zipWith f (bitsN n a) (bitsN n b)) = g a b % 2 ^ n
  | 0, a, b => by rw [bitsN, bitsN, List.zipWith_nil_left, numN, Nat.pow_zero, Nat.mod_one]
  | n + 1, a, b => by rw [bitsN, bitsN, List.zipWith_cons_cons, numN, zip_num f g h2 h1 n, mod_s, h2, h1]
theorem lt2 {f : Nat → Nat → Nat} {g : Nat → Nat → Nat} (h : ∀ i, i < 2 → ∀ j, j < 2 → g i j = f i j) (a b : Nat) : g (a % 2) (b % 2) = f (a % 2) (b % 2) := h _ (Nat.mod_lt _ (by decide)) _ (Nat.mod_lt _ (by decide))
theorem and2 (a b : Nat) : (a &&& b) % 2 = a % 2 * (b % 2) := by
  have e : (a &&& b) % 2 = (a % 2 &&& b % 2) := by
    have := Nat.and_mod_two_pow (a := a) (b := b) (n := 1)
    simpa using this
  rw [e]
  exact lt2 (f := fun i j => i * j) (g := fun i j => i &&& j) (by decide) a b
theorem or2 (a b : Nat) : (a ||| b) % 2 = max (a % 2) (b % 2) := by
  have e : (a ||| b) % 2 = (a % 2 ||| b % 2) := by
    have := Nat.or_mod_two_pow (a := a) (b := b) (n := 1)
    simpa using this
  rw [e]
  exact lt2 (f := fun i j => max i j) (g := fun i j => i ||| j) (by decide) a b
theorem xor2 (a b : Nat) : (a ^^^ b) % 2 = (a % 2 + b % 2) % 2 := by
  have e : (a ^^^ b) % 2 = (a % 2 ^^^ b % 2) := by
    have := Nat.xor_mod_two_pow (a := a) (b := b) (n := 1)
    simpa using this
  rw [e]
  exact lt2 (f := fun i j => (i + j) % 2) (g := fun i j => i ^^^ j) (by decide) a b
theorem num_and (n a b : Nat) : numN (List.zipWith (fun i j => i * j) (bitsN n a) (bitsN n b)) = (a &&& b) % 2 ^ n := zip_num _ (fun a b => a &&& b) (fun a b => Nat.and_div_two) and2 n a b
theorem num_or (n a b : Nat) : numN (List.zipWith (fun i j => max i j) (bitsN n a) (bitsN n b)) = (a ||| b) % 2 ^ n := zip_num _ (fun a b => a ||| b) (fun a b => Nat.or_div_two) or2 n a b
theorem num_xor (n a b : Nat) : numN (List.zipWith (fun i j => (i + j) % 2) (bitsN n a) (bitsN n b)) = (a ^^^ b) % 2 ^ n := zip_num _ (fun a b => a ^^^ b) (fun a b => Nat.xor_div_two) xor2 n a b
/-- what goes over -/
def sumN : Nat → List Nat → List Nat → List Nat
  | c, x :: xs, y :: ys => ((x + y + c) % 2) :: sumN ((x + y + c) / 2) xs ys
  | _, _, _ => []
theorem num_sum : ∀ n a b c, numN (sumN c (bitsN n a) (bitsN n b)) = (a + b + c) % 2 ^ n
  | 0, a, b, c => by rw [bitsN, bitsN, sumN, numN, Nat.pow_zero, Nat.mod_one] <;> simp
  | n + 1, a, b, c => by
    rw [bitsN, bitsN, sumN, numN, num_sum n, mod_s]
    have e1 : (a + b + c) % 2 = (a % 2 + b % 2 + c) % 2 := by omega
    have e2 : (a + b + c) / 2 = a / 2 + b / 2 + (a % 2 + b % 2 + c) / 2 := by omega
    rw [e1, e2]
theorem flip_bits : ∀ n b, (bitsN n b).map (fun x => 1 - x) = bitsN n (2 ^ n - 1 - b % 2 ^ n)
  | 0, _ => rfl
  | n + 1, b => by
    have h := mod_s b n
    have p := pow_s n
    have q : b / 2 % 2 ^ n < 2 ^ n := Nat.mod_lt _ (Nat.two_pow_pos n)
    rw [bitsN, bitsN, List.map_cons, flip_bits n]
    have e1 : 1 - b % 2 = (2 ^ (n + 1) - 1 - b % 2 ^ (n + 1)) % 2 := by omega
    have e2 : 2 ^ n - 1 - b / 2 % 2 ^ n = (2 ^ (n + 1) - 1 - b % 2 ^ (n + 1)) / 2 := by omega
    rw [e1, e2]
theorem num_sub (n a b : Nat) (hb : b < 2 ^ n) : numN (sumN 1 (bitsN n a) ((bitsN n b).map fun x => 1 - x)) = (a + (2 ^ n - b)) % 2 ^ n := by
  rw [flip_bits, num_sum, Nat.mod_eq_of_lt hb]
  congr 1
  omega
theorem num_flip (n a : Nat) (ha : a < 2 ^ n) : numN ((bitsN n a).map fun x => 1 - x) = 2 ^ n - 1 - a := by
  rw [flip_bits, num_bits, Nat.mod_eq_of_lt ha, Nat.mod_eq_of_lt (by omega)]
/-- the top bit -/
theorem bits_top : ∀ n w, bitsN (n + 1) w = bitsN n w ++ [w / 2 ^ n % 2]
  | 0, w => by simp [bitsN]
  | n + 1, w => by
    rw [bitsN, bits_top n, bitsN, List.cons_append, Nat.div_div_eq_div_mul, pow_s]
def fd : List (Nat × Nat) → Nat
  | [] => 0
  | p :: t => if p.1 = p.2 then fd t else if p.1 < p.2 then 1 else 0
theorem fd_bits : ∀ n a b, fd (List.zip (bitsN n a).reverse (bitsN n b).reverse) = if a % 2 ^ n < b % 2 ^ n then 1 else 0
  | 0, a, b => by simp [bitsN, fd, Nat.mod_one]
  | n + 1, a, b => by
    rw [bits_top, bits_top, List.reverse_append, List.reverse_append]
    show fd ((a / 2 ^ n % 2, b / 2 ^ n % 2) :: List.zip (bitsN n a).reverse (bitsN n b).reverse) = _
    have ea : a % 2 ^ (n + 1) = a % 2 ^ n + 2 ^ n * (a / 2 ^ n % 2) := by rw [Nat.pow_succ, Nat.mod_mul]
    have eb : b % 2 ^ (n + 1) = b % 2 ^ n + 2 ^ n * (b / 2 ^ n % 2) := by rw [Nat.pow_succ, Nat.mod_mul]
    have la : a % 2 ^ n < 2 ^ n := Nat.mod_lt _ (Nat.two_pow_pos n)
    have lb : b % 2 ^ n < 2 ^ n := Nat.mod_lt _ (Nat.two_pow_pos n)
    have ta := Nat.mod_two_eq_zero_or_one (a / 2 ^ n)
    have tb := Nat.mod_two_eq_zero_or_one (b / 2 ^ n)
    rw [fd, fd_bits n, ea, eb]
    rcases ta with ta | ta <;> rcases tb with tb | tb <;> rw [ta, tb] <;> simp
    · omega
    · omega
theorem bits_drop : ∀ k n w, (bitsN n w).drop k = bitsN (n - k) (w / 2 ^ k)
  | 0, n, w => by simp
  | k + 1, 0, w => by simp [bitsN]
  | k + 1, n + 1, w => by
    rw [bitsN, List.drop_succ_cons, bits_drop k n, Nat.div_div_eq_div_mul, pow_s, Nat.add_sub_add_right]
theorem bits_take : ∀ k n w, (bitsN n w).take k = bitsN (min k n) w
  | 0, n, w => by simp [bitsN]
  | k + 1, 0, w => by simp [bitsN]
  | k + 1, n + 1, w => by
    rw [bitsN, List.take_succ_cons, bits_take k n, Nat.add_min_add_right, bitsN]
theorem num_cut (n a low many : Nat) (ha : a < 2 ^ n) : numN (((bitsN n a).drop low).take many) = a / 2 ^ low % 2 ^ many := by
  rw [bits_drop, bits_take, num_bits]
  by_cases h : many ≤ n - low
  · rw [Nat.min_eq_left h]
  · have h2 : n - low ≤ many := by omega
    rw [Nat.min_eq_right h2]
    have l1 : a / 2 ^ low < 2 ^ (n - low) := by
      by_cases hl : low ≤ n
      · rw [Nat.div_lt_iff_lt_mul (Nat.two_pow_pos low), ← Nat.pow_add]
        rw [show n - low + low = n by omega]
        exact ha
      · have : a < 2 ^ low := Nat.lt_of_lt_of_le ha (Nat.pow_le_pow_right (by decide) (by omega))
        rw [Nat.div_eq_of_lt this]
        exact Nat.two_pow_pos _
    rw [Nat.mod_eq_of_lt l1, Nat.mod_eq_of_lt (Nat.lt_of_lt_of_le l1 (Nat.pow_le_pow_right (by decide) h2))]
theorem num_ones (n : Nat) : numN (List.replicate n 1) = 2 ^ n - 1 := by
  induction n with
  | zero => rfl
  | succ n ih =>
    have p := Nat.two_pow_pos n
    rw [List.replicate_succ, numN, ih, pow_s]
    omega
end M01

set_option Elab.async false
set_option linter.all false
/-! M28: ordered diagrams: two knots are one if they tell the same of every word. -/
namespace M28
structure Nd where
  b : Nat
  l : Nat
  h : Nat
deriving DecidableEq
abbrev NO : Nat := 1000000
/-- the knots behind the two ends: knot i + 2 is D[i] -/
def bitAt (D : List Nd) (i : Nat) : Nat := if i < 2 then NO else ((D[i - 2]?).map Nd.b).getD NO
structure Ok (D : List Nd) : Prop where
  at_ : ∀ (i : Nat) n, D[i]? = some n → n.l < i + 2 ∧ n.h < i + 2 ∧ n.l ≠ n.h ∧ n.b < bitAt D n.l ∧ n.b < bitAt D n.h
  once : ∀ (i j : Nat) n, D[i]? = some n → D[j]? = some n → i = j
  most : ∀ (i : Nat) n, D[i]? = some n → n.b < NO
def ev (D : List Nd) (w : Nat → Bool) : Nat → Nat → Bool
  | 0, i => i == 1
  | f + 1, i => if i < 2 then i == 1 else match D[i - 2]? with
    | none => false
    | some n => if w n.b then ev D w f n.h else ev D w f n.l
def val (D : List Nd) (w : Nat → Bool) (i : Nat) : Bool := ev D w i i
theorem ev_val {D : List Nd} (ok : Ok D) (w : Nat → Bool) : ∀ i f, i ≤ f → ev D w f i = val D w i := by
  intro i
  induction i using Nat.strongRecOn with
  | ind i ih =>
    intro f hf
    by_cases h2 : i < 2
    · have g : ∀ f, ev D w f i = (i == 1) := fun f => by
        cases f with
        | zero => rfl
        | succ f => show (if i < 2 then _ else _) = _; rw [if_pos h2]
      unfold val
      rw [g f, g i]
    · obtain ⟨k, rfl⟩ : ∃ k, i = k + 1 := ⟨i - 1, by omega⟩
      obtain ⟨m, rfl⟩ : ∃ m, f = m + 1 := ⟨f - 1, by omega⟩
      unfold val
      show (if k + 1 < 2 then _ else _) = (if k + 1 < 2 then _ else _)
      rw [if_neg h2, if_neg h2]
      cases e : D[k + 1 - 2]? with
      | none => rfl
      | some n =>
        obtain ⟨a, b, _⟩ := ok.at_ _ n e
        show (if w n.b then ev D w m n.h else ev D w m n.l) = (if w n.b then ev D w k n.h else ev D w k n.l)
        rw [ih n.h (by omega) m (by omega), ih n.l (by omega) m (by omega), ih n.h (by omega) k (by omega), ih n.l (by omega) k (by omega)]
theorem val_end {D : List Nd} {w : Nat → Bool} {i : Nat} (h : i < 2) : val D w i = (i == 1) := by
  unfold val
  cases i with
  | zero => rfl
  | succ i => show (if _ then _ else _) = _; rw [if_pos h]
theorem val_knot {D : List Nd} (ok : Ok D) {w : Nat → Bool} {i : Nat} {n : Nd} (e : D[i]? = some n) : val D w (i + 2) = if w n.b then val D w n.h else val D w n.l := by
  obtain ⟨a, b, _⟩ := ok.at_ _ n e
  have : val D w (i + 2) = (if w n.b then ev D w (i + 1) n.h else ev D w (i + 1) n.l) := by
    unfold val
    show (if i + 1 + 1 < 2 then _ else _) = _
    rw [if_neg (by omega), show i + 1 + 1 - 2 = i from by omega, e]
  rw [this, ev_val ok w n.h _ (by omega), ev_val ok w n.l _ (by omega)]
def put (w : Nat → Bool) (b : Nat) (c : Bool) : Nat → Bool := fun x => if x = b then c else w x
theorem bit_knot {D : List Nd} {i : Nat} {n : Nd} (e : D[i]? = some n) : bitAt D (i + 2) = n.b := by
  unfold bitAt
  rw [if_neg (by omega), show i + 2 - 2 = i from by omega, e] <;> rfl
/-- what stands behind a greater bit doesn't ask a lesser one -/
theorem val_put {D : List Nd} (ok : Ok D) (w : Nat → Bool) (b : Nat) (c : Bool) : ∀ i, i < D.length + 2 → b < bitAt D i → val D (put w b c) i = val D w i := by
  intro i
  induction i using Nat.strongRecOn with
  | ind i ih =>
    intro hi hb
    by_cases h2 : i < 2
    · rw [val_end h2, val_end h2]
    · obtain ⟨k, rfl⟩ : ∃ k, i = k + 2 := ⟨i - 2, by omega⟩
      have e := List.getElem?_eq_getElem (show k < D.length by omega)
      generalize D[k] = n at e
      obtain ⟨a1, a2, _, a4, a5⟩ := ok.at_ _ n e
      rw [bit_knot e] at hb
      rw [val_knot ok e, val_knot ok e, ih n.h (by omega) (by omega) (by omega), ih n.l (by omega) (by omega) (by omega)]
      rw [show put w b c n.b = w n.b from if_neg (by omega)]
theorem val_side {D : List Nd} (ok : Ok D) {i : Nat} {n : Nd} (e : D[i]? = some n) (w : Nat → Bool) (c : Bool) : val D (put w n.b c) (i + 2) = val D w (if c then n.h else n.l) := by
  obtain ⟨a1, a2, _, a4, a5⟩ := ok.at_ _ n e
  have li := (List.getElem?_eq_some_iff.mp e).1
  rw [val_knot ok e, show put w n.b c n.b = c from if_pos rfl]
  cases c
  · exact val_put ok w n.b false n.l (by omega) a4
  · exact val_put ok w n.b true n.h (by omega) a5
/-- knots that tell the same of every word are one knot -/
theorem canon {D : List Nd} (ok : Ok D) : ∀ m i j, i ≤ m → j ≤ m → i < D.length + 2 → j < D.length + 2 → (∀ w, val D w i = val D w j) → i = j := by
  intro m
  induction m with
  | zero => intro i j h1 h2 _ _ _; omega
  | succ m ih =>
    have less : ∀ i j, i ≤ m + 1 → i < D.length + 2 → j < D.length + 2 → 2 ≤ i → bitAt D i < bitAt D j → (∀ w, val D w i = val D w j) → False := fun i j hm hi hj h2 hb h => by
      obtain ⟨k, rfl⟩ : ∃ k, i = k + 2 := ⟨i - 2, by omega⟩
      have e := List.getElem?_eq_getElem (show k < D.length by omega)
      generalize D[k] = n at e
      obtain ⟨a1, a2, a3, a4, a5⟩ := ok.at_ _ n e
      rw [bit_knot e] at hb
      refine a3 (ih n.l n.h (by omega) (by omega) (by omega) (by omega) fun w => ?_)
      have x := h (put w n.b false)
      have y := h (put w n.b true)
      rw [val_side ok e, val_put ok w n.b _ j hj hb] at x y
      exact x.trans y.symm
    have no : ∀ {i : Nat}, i < 2 → bitAt D i = NO := fun h => by
      unfold bitAt
      rw [if_pos h]
    have mo : ∀ {i : Nat}, 2 ≤ i → i < D.length + 2 → bitAt D i < NO := fun {i} h2 hi => by
      obtain ⟨k, rfl⟩ : ∃ k, i = k + 2 := ⟨i - 2, by omega⟩
      have e := List.getElem?_eq_getElem (show k < D.length by omega)
      generalize D[k] = n at e
      rw [bit_knot e]
      obtain ⟨a1, a2, a3, a4, a5⟩ := ok.at_ _ n e
      have : bitAt D n.l ≤ NO := by
        by_cases h : n.l < 2
        · rw [no h]; exact Nat.le_refl _
        · have := ok.most (n.l - 2) (D[n.l - 2]'(by omega)) (List.getElem?_eq_getElem (by omega))
          unfold bitAt
          rw [if_neg h, List.getElem?_eq_getElem (by omega)]
          exact Nat.le_of_lt this
      omega
    intro i j hi hj li lj h
    by_cases i2 : i < 2
    · by_cases j2 : j < 2
      · have x := h fun _ => true
        rw [val_end i2, val_end j2] at x
        have : i = 0 ∨ i = 1 := by omega
        have : j = 0 ∨ j = 1 := by omega
        rcases ‹i = 0 ∨ i = 1› with rfl | rfl <;> rcases ‹j = 0 ∨ j = 1› with rfl | rfl <;> first | rfl | cases x
      · exact (less j i hj lj li (by omega) (by rw [no i2]; exact mo (by omega) lj) fun w => (h w).symm).elim
    · by_cases j2 : j < 2
      · exact (less i j hi li lj (by omega) (by rw [no j2]; exact mo (by omega) li) h).elim
      · rcases Nat.lt_trichotomy (bitAt D i) (bitAt D j) with b | b | b
        · exact (less i j hi li lj (by omega) b h).elim
        · obtain ⟨k, rfl⟩ : ∃ k, i = k + 2 := ⟨i - 2, by omega⟩
          obtain ⟨t, rfl⟩ : ∃ t, j = t + 2 := ⟨j - 2, by omega⟩
          have e := List.getElem?_eq_getElem (show k < D.length by omega)
          have f := List.getElem?_eq_getElem (show t < D.length by omega)
          generalize D[k] = n at e
          generalize D[t] = o at f
          obtain ⟨a1, a2, a3, a4, a5⟩ := ok.at_ _ n e
          obtain ⟨b1, b2, b3, b4, b5⟩ := ok.at_ _ o f
          rw [bit_knot e, bit_knot f] at b
          have side : ∀ (c : Bool) (w : Nat → Bool), val D w (if c then n.h else n.l) = val D w (if c then o.h else o.l) := fun c w => by
            have x := h (put w n.b c)
            rw [val_side ok e] at x
            rw [b, val_side ok f] at x
            exact x
          have el := ih n.l o.l (by omega) (by omega) (by omega) (by omega) (side false)
          have eh := ih n.h o.h (by omega) (by omega) (by omega) (by omega) (side true)
          have en : n = o := by
            cases n
            cases o
            cases b
            cases el
            cases eh
            rfl
          rw [← en] at f
          rw [ok.once k t n e f]
        · exact (less j i hj lj li (by omega) b fun w => (h w).symm).elim
/-- a knot more: what was told stays told -/
theorem ev_more {D E : List Nd} (ok : Ok D) (w : Nat → Bool) : ∀ i, i < D.length + 2 → Ok (D ++ E) → val (D ++ E) w i = val D w i := by
  intro i
  induction i using Nat.strongRecOn with
  | ind i ih =>
    intro hi ok2
    by_cases h2 : i < 2
    · rw [val_end h2, val_end h2]
    · obtain ⟨k, rfl⟩ : ∃ k, i = k + 2 := ⟨i - 2, by omega⟩
      have lk : k < D.length := by omega
      have e := List.getElem?_eq_getElem lk
      generalize D[k] = n at e
      obtain ⟨a1, a2, a3, a4, a5⟩ := ok.at_ _ n e
      have e2 : (D ++ E)[k]? = some n := by rw [List.getElem?_append_left lk]; exact e
      rw [val_knot ok2 e2, val_knot ok e, ih n.h (by omega) (by omega) ok2, ih n.l (by omega) (by omega) ok2]
theorem bit_more {D E : List Nd} {i : Nat} (h : i < D.length + 2) : bitAt (D ++ E) i = bitAt D i := by
  unfold bitAt
  by_cases h2 : i < 2
  · rw [if_pos h2, if_pos h2]
  · rw [if_neg h2, if_neg h2, List.getElem?_append_left (by omega)]
theorem ok_more {D : List Nd} (ok : Ok D) {n : Nd} (hl : n.l < D.length + 2) (hh : n.h < D.length + 2) (ne : n.l ≠ n.h) (bl : n.b < bitAt D n.l) (bh : n.b < bitAt D n.h) (bm : n.b < NO) (new : n ∉ D) : Ok (D ++ [n]) where
  at_ := fun i o e => by
    by_cases h : i < D.length
    · rw [List.getElem?_append_left h] at e
      obtain ⟨a1, a2, a3, a4, a5⟩ := ok.at_ i o e
      exact ⟨a1, a2, a3, by rw [bit_more (by omega)]; exact a4, by rw [bit_more (by omega)]; exact a5⟩
    · rw [List.getElem?_append_right (by omega)] at e
      have : i = D.length := by
        have := (List.getElem?_eq_some_iff.mp e).1
        simp at this
        omega
      subst this
      simp at e
      subst e
      exact ⟨hl, hh, ne, by rw [bit_more hl]; exact bl, by rw [bit_more hh]; exact bh⟩
  once := fun i j o e f => by
    by_cases h : i < D.length
    · by_cases g : j < D.length
      · rw [List.getElem?_append_left h] at e
        rw [List.getElem?_append_left g] at f
        exact ok.once i j o e f
      · rw [List.getElem?_append_left h] at e
        rw [List.getElem?_append_right (by omega)] at f
        have q := List.mem_of_getElem? f
        rw [List.mem_singleton.mp q] at e
        exact absurd (List.mem_of_getElem? e) new
    · by_cases g : j < D.length
      · rw [List.getElem?_append_left g] at f
        rw [List.getElem?_append_right (by omega)] at e
        have q := List.mem_of_getElem? e
        rw [List.mem_singleton.mp q] at f
        exact absurd (List.mem_of_getElem? f) new
      · rw [List.getElem?_append_right (by omega)] at e f
        have a := (List.getElem?_eq_some_iff.mp e).1
        have b := (List.getElem?_eq_some_iff.mp f).1
        simp at a b
        omega
  most := fun i o e => by
    by_cases h : i < D.length
    · rw [List.getElem?_append_left h] at e
      exact ok.most i o e
    · rw [List.getElem?_append_right (by omega)] at e
      rw [List.mem_singleton.mp (List.mem_of_getElem? e)]
      exact bm
/-- the knot on one side of a bit -/
def side (D : List Nd) (i b : Nat) (c : Bool) : Nat := if bitAt D i = b then (match D[i - 2]? with
  | some n => if c then n.h else n.l
  | none => i) else i
theorem knot_of {D : List Nd} {i : Nat} (hi : i < D.length + 2) (h : bitAt D i < NO) : ∃ k n, i = k + 2 ∧ D[k]? = some n := by
  have h2 : ¬ i < 2 := fun z => by
    unfold bitAt at h
    rw [if_pos z] at h
    exact Nat.lt_irrefl _ h
  exact ⟨i - 2, D[i - 2]'(by omega), by omega, List.getElem?_eq_getElem (by omega)⟩
/-- a bit that stands nowhere ahead parts what is told -/
theorem val_split {D : List Nd} (ok : Ok D) {i b : Nat} (hi : i < D.length + 2) (hb : b ≤ bitAt D i) (bn : b < NO) (w : Nat → Bool) : val D w i = val D w (side D i b (w b)) := by
  unfold side
  by_cases e : bitAt D i = b
  · rw [if_pos e]
    obtain ⟨k, n, rfl, en⟩ := knot_of hi (by omega)
    rw [bit_knot en] at e
    subst e
    rw [show k + 2 - 2 = k from by omega, en, val_knot ok en]
    cases w n.b <;> rfl
  · rw [if_neg e]
theorem side_bd {D : List Nd} (ok : Ok D) {i b : Nat} (hi : i < D.length + 2) (hb : b ≤ bitAt D i) (bn : b < NO) (c : Bool) : side D i b c < D.length + 2 ∧ b < bitAt D (side D i b c) := by
  unfold side
  by_cases e : bitAt D i = b
  · rw [if_pos e]
    obtain ⟨k, n, rfl, en⟩ := knot_of hi (by omega)
    rw [bit_knot en] at e
    subst e
    rw [show k + 2 - 2 = k from by omega, en]
    obtain ⟨a1, a2, a3, a4, a5⟩ := ok.at_ k n en
    have lk := (List.getElem?_eq_some_iff.mp en).1
    cases c
    · exact ⟨by show n.l < _; omega, a4⟩
    · exact ⟨by show n.h < _; omega, a5⟩
  · rw [if_neg e]
    exact ⟨hi, by omega⟩
/-- what a new or known knot over two sides tells -/
theorem val_made {D : List Nd} (ok : Ok D) {k l h b : Nat} (e : D[k]? = some ⟨b, l, h⟩) (w : Nat → Bool) : val D w (k + 2) = if w b then val D w h else val D w l := val_knot ok e

theorem no_end {D : List Nd} {i : Nat} (h : i < 2) : bitAt D i = NO := by
  unfold bitAt
  rw [if_pos h]
/-- a knot over two others: what stands behind it, which one it is -/
def kn (D : List Nd) (n : Nd) : List Nd := if n.l = n.h ∨ n ∈ D then D else D ++ [n]
def kr (D : List Nd) (n : Nd) : Nat := if n.l = n.h then n.l else D.idxOf n + 2
structure Fit (D : List Nd) (n : Nd) : Prop where
  l : n.l < D.length + 2
  h : n.h < D.length + 2
  bl : n.b < bitAt D n.l
  bh : n.b < bitAt D n.h
  bm : n.b < NO
/-- further knots -/
def Mo (D D' : List Nd) : Prop := Ok D' ∧ ∃ E, D' = D ++ E
theorem Mo.refl {D : List Nd} (ok : Ok D) : Mo D D := ⟨ok, [], by simp⟩
theorem Mo.trans {D D' D2 : List Nd} (a : Mo D D') (b : Mo D' D2) : Mo D D2 := by
  obtain ⟨_, E, rfl⟩ := a
  obtain ⟨o, F, rfl⟩ := b
  exact ⟨o, E ++ F, by simp⟩
theorem Mo.len {D D' : List Nd} (a : Mo D D') : D.length ≤ D'.length := by
  obtain ⟨_, E, rfl⟩ := a
  simp
theorem Mo.val {D D' : List Nd} (a : Mo D D') (ok : Ok D) {i : Nat} (h : i < D.length + 2) (w : Nat → Bool) : val D' w i = M28.val D w i := by
  obtain ⟨o, E, rfl⟩ := a
  exact ev_more ok w i h o
theorem Mo.bit {D D' : List Nd} (a : Mo D D') {i : Nat} (h : i < D.length + 2) : bitAt D' i = bitAt D i := by
  obtain ⟨o, E, rfl⟩ := a
  exact bit_more h
theorem Mo.get {D D' : List Nd} (a : Mo D D') {i : Nat} {n : Nd} (h : D[i]? = some n) : D'[i]? = some n := by
  obtain ⟨o, E, rfl⟩ := a
  rw [List.getElem?_append_left (List.getElem?_eq_some_iff.mp h).1]
  exact h
theorem idx_at {D : List Nd} {n : Nd} (h : n ∈ D) : D[D.idxOf n]? = some n := by
  have := List.idxOf_lt_length_of_mem h
  rw [List.getElem?_eq_getElem this, List.getElem_idxOf this]
theorem kn_ok {D : List Nd} (ok : Ok D) {n : Nd} (f : Fit D n) : Mo D (kn D n) ∧ (kn D n).length ≤ D.length + 1 ∧ kr D n < (kn D n).length + 2 ∧ n.b ≤ bitAt (kn D n) (kr D n) ∧ ∀ w, val (kn D n) w (kr D n) = if w n.b then val D w n.h else val D w n.l := by
  unfold kn kr
  by_cases e : n.l = n.h
  · rw [if_pos (.inl e), if_pos e]
    exact ⟨.refl ok, by omega, f.l, Nat.le_of_lt f.bl, fun w => by rw [e]; split <;> rfl⟩
  · rw [if_neg e]
    by_cases m : n ∈ D
    · rw [if_pos (.inr m)]
      have g := idx_at m
      have hl := (List.getElem?_eq_some_iff.mp g).1
      exact ⟨.refl ok, by omega, by omega, by rw [bit_knot g]; exact Nat.le_refl _, fun w => val_knot ok g⟩
    · rw [if_neg (fun z => z.elim e m)]
      have ok2 := ok_more ok f.l f.h e f.bl f.bh f.bm m
      have M : Mo D (D ++ [n]) := ⟨ok2, _, rfl⟩
      have x : D.idxOf n = D.length := by
        exact List.idxOf_eq_length m
      rw [x]
      have g : (D ++ [n])[D.length]? = some n := by simp
      refine ⟨M, by simp, by simp, by rw [bit_knot g]; exact Nat.le_refl _, fun w => ?_⟩
      rw [val_knot ok2 g, M.val ok f.l, M.val ok f.h]
theorem kn_lt {D : List Nd} {n : Nd} {B : Nat} (h : ∀ m ∈ D, m.b < B) (hn : n.b < B) : ∀ m ∈ kn D n, m.b < B := fun m hm => by
  unfold kn at hm
  split at hm
  · exact h m hm
  · rcases List.mem_append.mp hm with hm | hm
    · exact h m hm
    · rw [List.mem_singleton.mp hm]
      exact hn
/-! ### ways -/
def wayBy (b : Nat) (lo hi : Option Nat) : Option Nat := match hi with
  | none => lo
  | some y => match lo with
    | none => some (y + 2 ^ b)
    | some x => some (min x (y + 2 ^ b))
def w0 (i : Nat) : Option Nat := if i = 1 then some 0 else none
def wf (D : List Nd) : Nat → Nat → Option Nat
  | 0, i => w0 i
  | f + 1, i => if i < 2 then w0 i else match D[i - 2]? with
    | none => none
    | some n => wayBy n.b (wf D f n.l) (wf D f n.h)
def wy (D : List Nd) (i : Nat) : Option Nat := wf D i i
theorem wy_end {D : List Nd} {i : Nat} (h : i < 2) : wy D i = w0 i := by
  unfold wy
  cases i with
  | zero => rfl
  | succ i => show (if _ then _ else _) = _; rw [if_pos h]
theorem wf_wy {D : List Nd} (ok : Ok D) : ∀ i f, i ≤ f → wf D f i = wy D i := by
  intro i
  induction i using Nat.strongRecOn with
  | ind i ih =>
    intro f hf
    by_cases h2 : i < 2
    · rw [wy_end h2]
      cases f with
      | zero => rfl
      | succ f => show (if i < 2 then _ else _) = _; rw [if_pos h2]
    · obtain ⟨k, rfl⟩ : ∃ k, i = k + 1 := ⟨i - 1, by omega⟩
      obtain ⟨m, rfl⟩ : ∃ m, f = m + 1 := ⟨f - 1, by omega⟩
      unfold wy
      show (if k + 1 < 2 then _ else _) = (if k + 1 < 2 then _ else _)
      rw [if_neg h2, if_neg h2]
      cases e : D[k + 1 - 2]? with
      | none => rfl
      | some n =>
        obtain ⟨a, b, _⟩ := ok.at_ _ n e
        show wayBy _ _ _ = wayBy _ _ _
        rw [ih n.h (by omega) m (by omega), ih n.l (by omega) m (by omega), ih n.h (by omega) k (by omega), ih n.l (by omega) k (by omega)]
theorem wy_knot {D : List Nd} (ok : Ok D) {i : Nat} {n : Nd} (e : D[i]? = some n) : wy D (i + 2) = wayBy n.b (wy D n.l) (wy D n.h) := by
  obtain ⟨a, b, _⟩ := ok.at_ _ n e
  have : wy D (i + 2) = wayBy n.b (wf D (i + 1) n.l) (wf D (i + 1) n.h) := by
    unfold wy
    show (if i + 1 + 1 < 2 then _ else _) = _
    rw [if_neg (by omega), show i + 1 + 1 - 2 = i from by omega, e]
  rw [this, wf_wy ok n.h _ (by omega), wf_wy ok n.l _ (by omega)]
theorem wy_more {D D' : List Nd} (ok : Ok D) (M : Mo D D') : ∀ i, i < D.length + 2 → wy D' i = wy D i := by
  intro i
  induction i using Nat.strongRecOn with
  | ind i ih =>
    intro hi
    by_cases h2 : i < 2
    · rw [wy_end h2, wy_end h2]
    · obtain ⟨k, rfl⟩ : ∃ k, i = k + 2 := ⟨i - 2, by omega⟩
      have lk : k < D.length := by omega
      have e := List.getElem?_eq_getElem lk
      generalize D[k] = n at e
      obtain ⟨a1, a2, a3, a4, a5⟩ := ok.at_ k n e
      rw [wy_knot M.1 (M.get e), wy_knot ok e, ih n.h (by omega) (by omega), ih n.l (by omega) (by omega)]
def wd (m : Nat) : Nat → Bool := fun b => m.testBit b
theorem pow_pos' (b : Nat) : 0 < 2 ^ b := Nat.pos_of_ne_zero (by simp)
theorem tb_iff (m b : Nat) : m.testBit b = true ↔ m / 2 ^ b % 2 = 1 := by
  rw [Nat.testBit_eq_decide_div_mod_eq]
  simp
/-- a bit that is clear is put in by adding -/
theorem wd_add {m b : Nat} (h : m.testBit b = false) : wd (m + 2 ^ b) = put (wd m) b true := by
  have h1 : ¬ m / 2 ^ b % 2 = 1 := fun z => by
    rw [(tb_iff m b).mpr z] at h
    cases h
  have hp := pow_pos' b
  funext j
  show (m + 2 ^ b).testBit j = if j = b then true else m.testBit j
  by_cases e : j = b
  · rw [if_pos e, e]
    refine (tb_iff _ _).mpr ?_
    rw [Nat.add_div_right _ hp]
    omega
  · rw [if_neg e]
    rcases Nat.lt_or_gt_of_ne e with l | g
    · rw [Nat.add_comm]
      exact Nat.testBit_two_pow_add_gt l m
    · obtain ⟨c, rfl⟩ : ∃ c, j = b + 1 + c := ⟨j - b - 1, by omega⟩
      rw [show (m + 2 ^ b).testBit (b + 1 + c) = ((m + 2 ^ b) / 2 ^ (b + 1)).testBit c from by rw [Nat.testBit_div_two_pow, Nat.add_comm c]]
      rw [show m.testBit (b + 1 + c) = (m / 2 ^ (b + 1)).testBit c from by rw [Nat.testBit_div_two_pow, Nat.add_comm c]]
      congr 1
      rw [Nat.pow_succ, ← Nat.div_div_eq_div_mul, ← Nat.div_div_eq_div_mul, Nat.add_div_right _ hp]
      omega
theorem wd_sub {m b : Nat} (h : m.testBit b = true) : 2 ^ b ≤ m ∧ wd (m - 2 ^ b) = put (wd m) b false := by
  have l : 2 ^ b ≤ m := Nat.ge_two_pow_of_testBit h
  refine ⟨l, ?_⟩
  have hp := pow_pos' b
  have e : m = m - 2 ^ b + 2 ^ b := by omega
  have c : (m - 2 ^ b).testBit b = false := by
    cases z : (m - 2 ^ b).testBit b with
    | false => rfl
    | true =>
      have h1 := (tb_iff _ _).mp h
      have h2 := (tb_iff _ _).mp z
      rw [e, Nat.add_div_right _ hp] at h1
      omega
  have q := wd_add c
  rw [← e] at q
  funext j
  show wd (m - 2 ^ b) j = if j = b then false else wd m j
  by_cases x : j = b
  · rw [if_pos x, x]
    exact c
  · rw [if_neg x, q]
    exact (if_neg x).symm
theorem val_add {D : List Nd} (ok : Ok D) {i b m : Nat} (hi : i < D.length + 2) (hb : b < bitAt D i) (h : m.testBit b = false) : val D (wd (m + 2 ^ b)) i = val D (wd m) i := by
  rw [wd_add h]
  exact val_put ok _ b true i hi hb
theorem val_sub {D : List Nd} (ok : Ok D) {i b m : Nat} (hi : i < D.length + 2) (hb : b < bitAt D i) (h : m.testBit b = true) : 2 ^ b ≤ m ∧ val D (wd (m - 2 ^ b)) i = val D (wd m) i := by
  obtain ⟨l, e⟩ := wd_sub h
  refine ⟨l, ?_⟩
  rw [e]
  exact val_put ok _ b false i hi hb
def Least (D : List Nd) (i : Nat) : Option Nat → Prop
  | none => ∀ m, val D (wd m) i = false
  | some y => val D (wd y) i = true ∧ ∀ m, val D (wd m) i = true → y ≤ m
/-- the least word doesn't have a bit that isn't asked -/
theorem least_clear {D : List Nd} (ok : Ok D) {i b y : Nat} (hi : i < D.length + 2) (hb : b < bitAt D i) (h : Least D i (some y)) : y.testBit b = false := by
  cases z : y.testBit b with
  | false => rfl
  | true =>
    obtain ⟨l, e⟩ := val_sub ok hi hb z
    have := h.2 (y - 2 ^ b) (by rw [e]; exact h.1)
    have := pow_pos' b
    omega
theorem wy_least {D : List Nd} (ok : Ok D) : ∀ i, i < D.length + 2 → Least D i (wy D i) := by
  intro i
  induction i using Nat.strongRecOn with
  | ind i ih =>
    intro hi
    by_cases h2 : i < 2
    · rw [wy_end h2]
      unfold w0
      by_cases e : i = 1
      · rw [if_pos e]
        exact ⟨by rw [val_end h2, e]; rfl, fun _ _ => Nat.zero_le _⟩
      · rw [if_neg e]
        intro m
        rw [val_end h2]
        exact beq_eq_false_iff_ne.mpr e
    · obtain ⟨k, rfl⟩ : ∃ k, i = k + 2 := ⟨i - 2, by omega⟩
      have e := List.getElem?_eq_getElem (show k < D.length by omega)
      generalize D[k] = n at e
      obtain ⟨a1, a2, _, a4, a5⟩ := ok.at_ k n e
      have il := ih n.l (by omega) (by omega)
      have ihh := ih n.h (by omega) (by omega)
      have vk : ∀ m, val D (wd m) (k + 2) = if m.testBit n.b then val D (wd m) n.h else val D (wd m) n.l := fun m => val_knot ok e
      rw [wy_knot ok e]
      have up : ∀ {y}, Least D n.h (some y) → val D (wd (y + 2 ^ n.b)) (k + 2) = true ∧ ∀ m, m.testBit n.b = true → val D (wd m) (k + 2) = true → y + 2 ^ n.b ≤ m := fun {y} q => by
        have c := least_clear ok (by omega) a5 q
        refine ⟨?_, fun m hm hv => ?_⟩
        · rw [vk, if_pos (show (y + 2 ^ n.b).testBit n.b = true from by have := congrFun (wd_add c) n.b; exact this.trans (if_pos rfl)), val_add ok (by omega) a5 c]
          exact q.1
        · rw [vk, if_pos hm] at hv
          obtain ⟨l, ev⟩ := val_sub ok (show n.h < D.length + 2 by omega) a5 hm
          have := q.2 (m - 2 ^ n.b) (by rw [ev]; exact hv)
          omega
      have lw : ∀ {x}, Least D n.l (some x) → val D (wd x) (k + 2) = true ∧ ∀ m, m.testBit n.b = false → val D (wd m) (k + 2) = true → x ≤ m := fun {x} q => by
        have c := least_clear ok (by omega) a4 q
        refine ⟨?_, fun m hm hv => ?_⟩
        · rw [vk, if_neg (by rw [c]; decide)]
          exact q.1
        · rw [vk, if_neg (by rw [hm]; decide)] at hv
          exact q.2 m hv
      cases eh : wy D n.h with
      | none =>
        rw [eh] at ihh
        show Least D (k + 2) (wy D n.l)
        cases el : wy D n.l with
        | none =>
          rw [el] at il
          intro m
          rw [vk]
          split
          · exact ihh m
          · exact il m
        | some x =>
          rw [el] at il
          obtain ⟨p, q⟩ := lw il
          refine ⟨p, fun m hm => ?_⟩
          cases z : m.testBit n.b with
          | false => exact q m z hm
          | true =>
            rw [vk, if_pos z, ihh m] at hm
            cases hm
      | some y =>
        rw [eh] at ihh
        obtain ⟨p, q⟩ := up ihh
        cases el : wy D n.l with
        | none =>
          rw [el] at il
          refine ⟨p, fun m hm => ?_⟩
          cases z : m.testBit n.b with
          | true => exact q m z hm
          | false =>
            rw [vk, if_neg (by rw [z]; decide), il m] at hm
            cases hm
        | some x =>
          rw [el] at il
          obtain ⟨p2, q2⟩ := lw il
          show Least D (k + 2) (some (min x (y + 2 ^ n.b)))
          refine ⟨?_, fun m hm => ?_⟩
          · rcases Nat.le_total x (y + 2 ^ n.b) with l | l
            · rw [Nat.min_eq_left l]; exact p2
            · rw [Nat.min_eq_right l]; exact p
          · cases z : m.testBit n.b with
            | true => exact Nat.le_trans (Nat.min_le_right ..) (q m z hm)
            | false => exact Nat.le_trans (Nat.min_le_left ..) (q2 m z hm)
/-! ### words of five bits -/
def Five (D : List Nd) : Prop := ∀ n ∈ D, n.b < 5
theorem val_agree {D : List Nd} (ok : Ok D) (fv : Five D) {u w : Nat → Bool} (h : ∀ b, b < 5 → u b = w b) : ∀ i, i < D.length + 2 → val D u i = val D w i := by
  intro i
  induction i using Nat.strongRecOn with
  | ind i ih =>
    intro hi
    by_cases h2 : i < 2
    · rw [val_end h2, val_end h2]
    · obtain ⟨k, rfl⟩ : ∃ k, i = k + 2 := ⟨i - 2, by omega⟩
      have e := List.getElem?_eq_getElem (show k < D.length by omega)
      have m5 := fv D[k] (List.getElem_mem ..)
      generalize D[k] = n at e m5
      obtain ⟨a1, a2, _⟩ := ok.at_ k n e
      rw [val_knot ok e, val_knot ok e, h n.b m5, ih n.h (by omega) (by omega), ih n.l (by omega) (by omega)]
/-- a word of five bits, as such -/
def num5 (w : Nat → Bool) : Nat := (w 0).toNat + 2 * (w 1).toNat + 4 * (w 2).toNat + 8 * (w 3).toNat + 16 * (w 4).toNat
theorem num5_ok (w : Nat → Bool) : num5 w < 32 ∧ ∀ b, b < 5 → wd (num5 w) b = w b := by
  refine ⟨?_, fun b hb => ?_⟩
  · unfold num5
    generalize w 0 = a, w 1 = b, w 2 = c, w 3 = d, w 4 = e
    cases a <;> cases b <;> cases c <;> cases d <;> cases e <;> decide
  · have : b = 0 ∨ b = 1 ∨ b = 2 ∨ b = 3 ∨ b = 4 := by omega
    unfold num5 wd
    rcases this with rfl | rfl | rfl | rfl | rfl <;> generalize w 0 = a, w 1 = b, w 2 = c, w 3 = d, w 4 = e <;> cases a <;> cases b <;> cases c <;> cases d <;> cases e <;> decide
/-- a knot and its truths -/
def PrOk (D : List Nd) (p : Nat × Nat) : Prop := p.1 < D.length + 2 ∧ p.2 < 2 ^ 32 ∧ ∀ m, m < 32 → p.2.testBit m = val D (wd m) p.1
theorem pr_ext {D D' : List Nd} (ok : Ok D) (M : Mo D D') {p : Nat × Nat} (h : PrOk D p) : PrOk D' p := by
  have := M.len
  exact ⟨by have := h.1; omega, h.2.1, fun m hm => by rw [M.val ok h.1]; exact h.2.2 m hm⟩
/-- knots are one just where their truths are -/
theorem pr_one {D : List Nd} (ok : Ok D) (fv : Five D) {p q : Nat × Nat} (hp : PrOk D p) (hq : PrOk D q) : p.1 = q.1 ↔ p.2 = q.2 := by
  constructor
  · intro e
    refine Nat.eq_of_testBit_eq fun m => ?_
    by_cases h : m < 32
    · rw [hp.2.2 m h, hq.2.2 m h, e]
    · rw [Nat.testBit_lt_two_pow (Nat.lt_of_lt_of_le hp.2.1 (Nat.pow_le_pow_right (by decide) (by omega))), Nat.testBit_lt_two_pow (Nat.lt_of_lt_of_le hq.2.1 (Nat.pow_le_pow_right (by decide) (by omega)))]
  · intro e
    refine canon ok (max p.1 q.1) _ _ (Nat.le_max_left ..) (Nat.le_max_right ..) hp.1 hq.1 fun w => ?_
    obtain ⟨h1, h2⟩ := num5_ok w
    have a := val_agree ok fv h2 p.1 hp.1
    have b := val_agree ok fv h2 q.1 hq.1
    rw [← a, ← b, ← hp.2.2 _ h1, ← hq.2.2 _ h1, e]
/-- the least word, among words of five bits -/
theorem least5 {D : List Nd} (ok : Ok D) (fv : Five D) {p : Nat × Nat} (h : PrOk D p) : match wy D p.1 with
    | none => ∀ m, m < 32 → p.2.testBit m = false
    | some y => y < 32 ∧ p.2.testBit y = true ∧ ∀ m, m < 32 → p.2.testBit m = true → y ≤ m := by
  have l := wy_least ok p.1 h.1
  cases e : wy D p.1 with
  | none =>
    rw [e] at l
    exact fun m hm => by rw [h.2.2 m hm]; exact l m
  | some y =>
    rw [e] at l
    obtain ⟨h1, h2⟩ := num5_ok (wd y)
    have a := val_agree ok fv h2 p.1 h.1
    have y5 : y < 32 := by
      have := l.2 (num5 (wd y)) (by rw [a]; exact l.1)
      omega
    exact ⟨y5, by rw [h.2.2 y y5]; exact l.1, fun m hm hv => l.2 m (by rw [← h.2.2 m hm]; exact hv)⟩
/-! ### what is made of others -/
def opL : List Bool → Bool
  | [a, b] => a != b
  | [t, a, b] => if t then a else b
  | _ => false
/-- r tells what is made of ks, and asks no earlier bit -/
def Made (D : List Nd) (ks : List Nat) (r : Nat) : Prop := (∀ k ∈ ks, k < D.length + 2) ∧ r < D.length + 2 ∧ (∀ w, val D w r = opL (ks.map (val D w))) ∧ ∀ m, (∀ k ∈ ks, m ≤ bitAt D k) → m ≤ NO → m ≤ bitAt D r
theorem made_ext {D D' : List Nd} (ok : Ok D) (M : Mo D D') {ks : List Nat} {r : Nat} (h : Made D ks r) : Made D' ks r := by
  obtain ⟨h1, h2, h3, h4⟩ := h
  have l := M.len
  refine ⟨fun k hk => by have := h1 k hk; omega, by omega, fun w => ?_, fun m hm mn => ?_⟩
  · rw [M.val ok h2, h3 w]
    congr 1
    exact List.map_congr_left fun k hk => (M.val ok (h1 k hk) w).symm
  · rw [M.bit h2]
    exact h4 m (fun k hk => by rw [← M.bit (h1 k hk)]; exact hm k hk) mn
def side' (D : List Nd) (b : Nat) (c : Bool) (i : Nat) : Nat := side D i b c
theorem side_ext {D D' : List Nd} (M : Mo D D') {i b : Nat} (hi : i < D.length + 2) (bn : b < NO) (c : Bool) : side D' i b c = side D i b c := by
  unfold side
  rw [M.bit hi]
  by_cases e : bitAt D i = b
  · rw [if_pos e, if_pos e]
    obtain ⟨k, n, rfl, en⟩ := knot_of hi (by omega)
    rw [show k + 2 - 2 = k from by omega, en, M.get en]
  · rw [if_neg e, if_neg e]
/-- the step of what is made: the least bit b, what is made of both sides, a knot over them -/
theorem made_step {D D1 D2 : List Nd} (ok : Ok D) (M1 : Mo D D1) (M2 : Mo D1 D2) {ks : List Nat} {b lo hi : Nat} (hk : ∀ k ∈ ks, k < D.length + 2 ∧ b ≤ bitAt D k) (bm : b < NO) (inb : ∃ k ∈ ks, bitAt D k = b)
    (hl : Made D1 (ks.map (side' D b false)) lo) (hh : Made D2 (ks.map (side' D1 b true)) hi) : Fit D2 ⟨b, lo, hi⟩ ∧ Made (kn D2 ⟨b, lo, hi⟩) ks (kr D2 ⟨b, lo, hi⟩) := by
  have M : Mo D D2 := M1.trans M2
  have eh : ks.map (side' D1 b true) = ks.map (side' D b true) := List.map_congr_left fun k h => side_ext M1 (hk k h).1 bm true
  rw [eh] at hh
  have hl2 := made_ext M1.1 M2 hl
  have bd : ∀ (c : Bool) {r}, Made D2 (ks.map (side' D b c)) r → b < bitAt D2 r := fun c {r} h => by
    refine h.2.2.2 (b + 1) (fun k hk2 => ?_) bm
    obtain ⟨i, hi2, rfl⟩ := List.mem_map.mp hk2
    obtain ⟨s1, s2⟩ := side_bd ok (hk i hi2).1 (hk i hi2).2 bm c
    rw [M.bit (show side' D b c i < D.length + 2 from s1)]
    exact s2
  have f : Fit D2 ⟨b, lo, hi⟩ := ⟨hl2.2.1, hh.2.1, bd false hl2, bd true hh, bm⟩
  refine ⟨f, ?_⟩
  obtain ⟨K, _, kr1, kr2, kr3⟩ := kn_ok M2.1 f
  have MK := M.trans K
  have lenK := MK.len
  refine ⟨fun k h => by have := (hk k h).1; omega, kr1, fun w => ?_, fun m hm _ => ?_⟩
  · rw [kr3 w]
    have e : ∀ c, opL ((ks.map (side' D b c)).map (val D2 w)) = opL (ks.map fun k => val D w (side D k b c)) := fun c => by
      rw [List.map_map]
      congr 1
      exact List.map_congr_left fun k h => M.val ok (side_bd ok (hk k h).1 (hk k h).2 bm c).1 w
    have e2 : opL (ks.map (val (kn D2 ⟨b, lo, hi⟩) w)) = opL (ks.map fun k => val D w (side D k b (w b))) := by
      congr 1
      exact List.map_congr_left fun k h => by rw [MK.val ok (hk k h).1]; exact val_split ok (hk k h).1 (hk k h).2 bm w
    rw [e2]
    show (if w b then val D2 w hi else val D2 w lo) = _
    rw [hl2.2.2.1 w, hh.2.2.1 w, e, e]
    cases w b <;> rfl
  · obtain ⟨k, k1, k2⟩ := inb
    have := hm k k1
    rw [MK.bit (hk k k1).1, k2] at this
    exact Nat.le_trans this kr2
/-! ### rules -/
def ruleL : List Nat → Option Nat
  | [a, b] => if a = b then some 0 else if b = 0 then some a else if a = 0 then some b else none
  | [t, a, b] => if t = 1 ∨ a = b then some a else if t = 0 then some b else if b = 0 ∧ (a = 1 ∨ a = t) then some t else if a = 1 ∧ t = b then some b else none
  | _ => none
def Len (ks : List Nat) : Prop := ks.length = 2 ∨ ks.length = 3
theorem len_cases {ks : List Nat} (h : Len ks) : (∃ a b, ks = [a, b]) ∨ ∃ t a b, ks = [t, a, b] := by
  match ks, h with
  | [a, b], _ => exact .inl ⟨a, b, rfl⟩
  | [t, a, b], _ => exact .inr ⟨t, a, b, rfl⟩
  | [], h => rcases h with h | h <;> cases h
  | [_], h => rcases h with h | h <;> cases h
  | _ :: _ :: _ :: _ :: _, h => rcases h with h | h <;> simp at h
theorem val0 {D : List Nd} {w : Nat → Bool} : val D w 0 = false := val_end (by decide)
theorem val1 {D : List Nd} {w : Nat → Bool} : val D w 1 = true := val_end (by decide)
theorem bit0 {D : List Nd} : bitAt D 0 = NO := no_end (by decide)
theorem rule_made {D : List Nd} {ks : List Nat} (hk : ∀ k ∈ ks, k < D.length + 2) (hl : Len ks) {r : Nat} (h : ruleL ks = some r) : Made D ks r := by
  have mem : ∀ {r}, r ∈ ks → (∀ w, val D w r = opL (ks.map (val D w))) → Made D ks r := fun {r} m e => ⟨hk, hk r m, e, fun n hn _ => hn r m⟩
  rcases len_cases hl with ⟨a, b, rfl⟩ | ⟨t, a, b, rfl⟩
  · change (if a = b then some 0 else if b = 0 then some a else if a = 0 then some b else none) = _ at h
    split at h
    · rename_i e
      cases h
      exact ⟨hk, by omega, fun w => by subst e; show _ = (val D w a != val D w a); rw [val0]; cases val D w a <;> rfl, fun n _ hn => by rw [bit0]; exact hn⟩
    · split at h
      · rename_i e
        cases h
        subst e
        exact mem (by simp) fun w => by show val D w r = (val D w r != val D w 0); rw [val0]; cases val D w r <;> rfl
      · split at h
        · rename_i e
          cases h
          subst e
          exact mem (by simp) fun w => by show val D w r = (val D w 0 != val D w r); rw [val0]; cases val D w r <;> rfl
        · cases h
  · change (if t = 1 ∨ a = b then some a else if t = 0 then some b else if b = 0 ∧ (a = 1 ∨ a = t) then some t else if a = 1 ∧ t = b then some b else none) = _ at h
    have op : ∀ w, opL ([t, a, b].map (val D w)) = if val D w t then val D w a else val D w b := fun _ => rfl
    split at h
    · rename_i e
      cases h
      refine mem (by simp) fun w => ?_
      rw [op]
      rcases e with e | e
      · subst e; rw [val1]; rfl
      · subst e; split <;> rfl
    · split at h
      · rename_i e
        cases h
        subst e
        refine mem (by simp) fun w => ?_
        rw [op, val0]
        rfl
      · split at h
        · rename_i e
          cases h
          obtain ⟨e1, e2⟩ := e
          subst e1
          refine mem (by simp) fun w => ?_
          rw [op, val0]
          rcases e2 with e2 | e2
          · subst e2; rw [val1]; cases val D w r <;> rfl
          · subst e2; cases val D w a <;> rfl
        · split at h
          · rename_i e
            cases h
            obtain ⟨e1, e2⟩ := e
            subst e1 e2
            refine mem (by simp) fun w => ?_
            rw [op, val1]
            cases val D w t <;> rfl
          · cases h
theorem rule_none {ks : List Nat} (hl : Len ks) (h : ruleL ks = none) : ∃ k ∈ ks, 2 ≤ k := by
  rcases len_cases hl with ⟨a, b, rfl⟩ | ⟨t, a, b, rfl⟩
  · change (if a = b then some 0 else if b = 0 then some a else if a = 0 then some b else none) = _ at h
    by_cases x : 2 ≤ a
    · exact ⟨a, by simp, x⟩
    · refine ⟨b, by simp, ?_⟩
      split at h
      · cases h
      · split at h
        · cases h
        · split at h
          · cases h
          · omega
  · change (if t = 1 ∨ a = b then some a else if t = 0 then some b else if b = 0 ∧ (a = 1 ∨ a = t) then some t else if a = 1 ∧ t = b then some b else none) = _ at h
    refine ⟨t, by simp, ?_⟩
    split at h
    · cases h
    · split at h
      · cases h
      · omega
/-- r tells what l or h tells, by bit b -/
def Chs (D : List Nd) (b l h r : Nat) : Prop := r < D.length + 2 ∧ (∀ w, val D w r = if w b then val D w h else val D w l) ∧ ∀ m, m ≤ b → m ≤ bitAt D l → m ≤ bitAt D h → m ≤ bitAt D r
theorem chs_ext {D D' : List Nd} (ok : Ok D) (M : Mo D D') {b l h r : Nat} (hl : l < D.length + 2) (hh : h < D.length + 2) (c : Chs D b l h r) : Chs D' b l h r := by
  obtain ⟨c1, c2, c3⟩ := c
  have := M.len
  refine ⟨by omega, fun w => by rw [M.val ok c1, M.val ok hl, M.val ok hh, c2 w], fun m h1 h2 h3 => ?_⟩
  rw [M.bit hl] at h2
  rw [M.bit hh] at h3
  rw [M.bit c1]
  exact c3 m h1 h2 h3
theorem chs_end {D : List Nd} (ok : Ok D) {b l h : Nat} (hl : l < D.length + 2) (hh : h < D.length + 2) (bl : b ≤ bitAt D l) (bh : b ≤ bitAt D h) (bm : b < NO) :
    Fit D ⟨b, side D l b false, side D h b true⟩ ∧ Chs (kn D ⟨b, side D l b false, side D h b true⟩) b l h (kr D ⟨b, side D l b false, side D h b true⟩) := by
  obtain ⟨a1, a2⟩ := side_bd ok hl bl bm false
  obtain ⟨b1, b2⟩ := side_bd ok hh bh bm true
  have f : Fit D ⟨b, side D l b false, side D h b true⟩ := ⟨a1, b1, a2, b2, bm⟩
  obtain ⟨M, _, k1, k2, k3⟩ := kn_ok ok f
  refine ⟨f, k1, fun w => ?_, fun m h1 _ _ => Nat.le_trans h1 k2⟩
  rw [k3 w, M.val ok hl, M.val ok hh]
  show (if w b then val D w (side D h b true) else val D w (side D l b false)) = _
  have e1 := val_split ok hl bl bm w
  have e2 := val_split ok hh bh bm w
  cases z : w b with
  | true => rw [z] at e2; rw [← e2]; rfl
  | false => rw [z] at e1; rw [← e1]; rfl
theorem chs_step {D D1 D2 : List Nd} (ok : Ok D) (M1 : Mo D D1) (M2 : Mo D1 D2) {b l h f lo hi : Nat} (hl : l < D.length + 2) (hh : h < D.length + 2) (fb : f < b) (fl : f ≤ bitAt D l) (fh : f ≤ bitAt D h) (inf : f = bitAt D l ∨ f = bitAt D h) (fm : f < NO)
    (c1 : Chs D1 b (side D l f false) (side D h f false) lo) (c2 : Chs D2 b (side D l f true) (side D h f true) hi) : Fit D2 ⟨f, lo, hi⟩ ∧ Chs (kn D2 ⟨f, lo, hi⟩) b l h (kr D2 ⟨f, lo, hi⟩) := by
  have M := M1.trans M2
  have L1 := M1.len
  have L := M.len
  have sl := fun c => side_bd ok hl fl fm c
  have sh := fun c => side_bd ok hh fh fm c
  have c1' := chs_ext M1.1 M2 (by have := (sl false).1; omega) (by have := (sh false).1; omega) c1
  have b1 : f < bitAt D2 lo := c1'.2.2 (f + 1) fb (by rw [M.bit (sl false).1]; exact (sl false).2) (by rw [M.bit (sh false).1]; exact (sh false).2)
  have b2 : f < bitAt D2 hi := c2.2.2 (f + 1) fb (by rw [M.bit (sl true).1]; exact (sl true).2) (by rw [M.bit (sh true).1]; exact (sh true).2)
  have ft : Fit D2 ⟨f, lo, hi⟩ := ⟨c1'.1, c2.1, b1, b2, fm⟩
  refine ⟨ft, ?_⟩
  obtain ⟨K, _, k1, k2, k3⟩ := kn_ok M2.1 ft
  have MK := M.trans K
  refine ⟨k1, fun w => ?_, fun m h1 h2 h3 => ?_⟩
  · rw [k3 w, MK.val ok hl, MK.val ok hh]
    show (if w f then val D2 w hi else val D2 w lo) = _
    rw [c1'.2.1 w, c2.2.1 w, M.val ok (sl false).1, M.val ok (sh false).1, M.val ok (sl true).1, M.val ok (sh true).1]
    have e1 := val_split ok hl fl fm w
    have e2 := val_split ok hh fh fm w
    rw [e1, e2]
    cases w f <;> cases w b <;> rfl
  · rw [MK.bit hl] at h2
    rw [MK.bit hh] at h3
    refine Nat.le_trans ?_ k2
    rcases inf with e | e <;> rw [e] <;> assumption
/-- beyond the first bits -/
theorem beyond_step {D : List Nd} (ok : Ok D) {i : Nat} (hi : i < D.length + 2) (bm : bitAt D i < NO) (w : Nat → Bool) : side D i (bitAt D i) (w (bitAt D i)) < i ∧ val D w i = val D w (side D i (bitAt D i) (w (bitAt D i))) := by
  refine ⟨?_, val_split ok hi (Nat.le_refl _) bm w⟩
  obtain ⟨k, n, rfl, en⟩ := knot_of hi bm
  unfold side
  rw [if_pos rfl, show k + 2 - 2 = k from by omega, en]
  obtain ⟨a1, a2, _⟩ := ok.at_ k n en
  cases w (bitAt D (k + 2))
  · exact a1
  · exact a2
end M28

set_option Elab.async false
set_option linter.all false
set_option maxRecDepth 100000
set_option maxHeartbeats 4000000
namespace K28
open PySem PySem.Spec PyProof.Rows L2 Z
open Evl (Ex ex_l ex_t sq_of st_of fresh_back RetL RetV)
local macro_rules | `(tactic| walk_at "zc") => `(tactic| first
  | (show (0 : Int) < _; omega)
  | exact ⟨by decide, by decide⟩
  | exact Or.inl ⟨by decide, by decide⟩
  | exact Or.inr ⟨by decide, by decide⟩
  | exact ⟨by decide, by decide, by decide⟩
  | exact Or.inl ⟨by omega, by omega⟩
  | exact Or.inr ⟨by omega, by omega⟩)
local macro_rules | `(tactic| walk_at "sq") => `(tactic| first
  | assumption
  | exact sq_of (by assumption)
  | exact sq_of upd_same
  | exact st_of (by assumption)
  | exact st_of upd_same
  | (refine ex_l (by assumption) ?_; walk_at "sq")
  | (refine ex_t (by assumption) ?_; walk_at "sq")
  | (refine ex_l (Ex.new (by assumption)) ?_; walk_at "sq")
  | (refine ex_t (Ex.new (by assumption)) ?_; walk_at "sq"))
local macro_rules | `(tactic| walk_at "ex") => `(tactic| first
  | exact Ex.refl _
  | assumption
  | (refine Ex.trans ?_ (Ex.new (by assumption)); walk_at "ex")
  | ((refine' Ex.trans ?_ ?zx); (case zx => assumption); walk_at "ex"))
local macro_rules | `(tactic| walk_at "z1") => `(tactic| first
  | with_reducible exact trivial
  | with_reducible refine z_seq ?_
  | with_reducible refine z_asg ?_
  | with_reducible refine z_ret ?_
  | with_reducible refine z_ifs ?_
  | with_reducible refine z_op ?_
  | with_reducible refine z_c ?_
  | ((with_reducible refine' z_var ?zh ?_); (case zh => exact rfl))
  | with_reducible refine z_i0 ?_
  | with_reducible refine z_gname ?_
  | ((with_reducible refine z_i ?zh ?_); (case zh => walk_at "zc"))
  | with_reducible refine z_next ?_
  | with_reducible refine z_test ?_
  | with_reducible refine z_tB ?_
  | with_reducible refine z_bl ?_
  | ((with_reducible refine z_eq ?zh ?_); (case zh => rfl))
  | ((with_reducible refine z_ne ?zh ?_); (case zh => rfl))
  | with_reducible refine z_cons ?_
  | with_reducible refine z_nil ?_
  | with_reducible refine z_call ?_
  | with_reducible refine z_cb ?_
  | with_reducible refine z_lst ?_
  | with_reducible refine z_tup ?_
  | with_reducible refine z_un ?_
  | with_reducible refine z_u ?_
  | with_reducible refine z_if ?_
  | with_reducible refine z_andT ?_
  | with_reducible refine z_orT ?_
  | with_reducible refine z_notT ?_
  | with_reducible refine z_trub ?_
  | with_reducible refine z_trui ?_
  | with_reducible refine z_trun ?_
  | with_reducible refine z_tru ?_
  | with_reducible refine z_and ?_
  | with_reducible refine z_or ?_
  | with_reducible refine z_not ?_
  | with_reducible refine z_yes ?_
  | with_reducible refine z_isN ?_
  | with_reducible refine z_notN ?_
  | with_reducible refine z_chain ?_
  | with_reducible refine z_int1 ?_
  | with_reducible refine z_intb ?_
  | with_reducible refine z_max2 ?_
  | with_reducible refine z_min2 ?_
  | with_reducible refine z_revL ?_
  | with_reducible refine z_nopart ?_
  | with_reducible refine z_part ?_
  | with_reducible refine z_part1 ?_
  | with_reducible refine z_sl ?_
  | with_reducible refine z_drop ?_
  | with_reducible refine z_bm ?_
  | with_reducible refine z_bm0 ?_
  | with_reducible refine z_tys ?_
  | with_reducible refine z_brk ?_
  | with_reducible refine z_cont ?_
  | with_reducible refine z_retN ?_
  | with_reducible refine z_fl ?_
  | with_reducible refine z_ft ?_
  | with_reducible refine z_fs ?_
  | with_reducible refine z_fr1 ?_
  | with_reducible refine z_fr2 ?_
  | with_reducible refine z_fz ?_
  | with_reducible refine z_fe ?_
  | with_reducible refine z_cl ?_
  | with_reducible refine z_cs ?_
  | with_reducible refine z_cr1 ?_
  | with_reducible refine z_crv ?_
  | with_reducible refine z_isbl ?_
  | with_reducible refine z_notbl ?_
  | with_reducible refine ite_t ?_
  | with_reducible refine ite_f ?_
  | ((with_reducible refine' z_aug ?zh ?_); (case zh => exact rfl))
  | with_reducible refine z_ipi ?_)
local macro_rules | `(tactic| walk_at "zz") => `(tactic| repeat walk_at "z1")
open ZW M01 M28 ZDN
local macro_rules | `(tactic| walk_at "z1") => `(tactic| first
  | with_reducible refine z_fld ?_
  | with_reducible refine z_sfld ?_
  | with_reducible refine z_meth ?_
  | with_reducible refine z_make ?_
  | with_reducible refine z_maked ?_
  | with_reducible refine z_par ?_
  | with_reducible refine z_gsub ?_
  | with_reducible refine z_dget ?_
  | with_reducible refine z_dnotin ?_
  | with_reducible refine z_dput ?_
  | with_reducible refine z_nget ?_
  | with_reducible refine z_nnotin ?_
  | with_reducible refine z_nput ?_
  | with_reducible refine z_nnew ?_
  | with_reducible refine z_tnewT ?_
  | with_reducible refine z_lenset ?_
  | with_reducible refine z_ckw ?_
  | with_reducible refine z_ce ?_
  | with_reducible refine z_ct ?_
  | with_reducible refine ZZ.z_rz ?_
  | with_reducible refine ZZ.z_fs ?_
  | with_reducible refine ZZ.z_methS ?_)

abbrev DC (K : PySem.W.Frag) : Addr := He.ga K "Diagrams"
abbrev vi (n : Nat) : V := .int (n : Int)
def mixN (n k : Int) : Int := (n + 7919 * k * k + 31 * k + 1) * 48271 % 2147483647 * 69621 % 2147483629 / 64
theorem mixN_b (n k : Int) : 0 ≤ mixN n k ∧ mixN n k < 33554432 := by
  unfold mixN
  omega
def cellB (b k : Int) : Int := (b + 7919 * k * k + 31 * k) * 48271 % 2147483647 * 69621 % 2147483629 / 64
def cellN (ns : List Int) (k : Int) : Int := cellB (if 0 < ns.length then ns.getD (k % ns.length).toNat 0 % 2147483647 else 17) k
theorem cellN_b (ns : List Int) (k : Int) : 0 ≤ cellN ns k ∧ cellN ns k < 33554432 := by
  unfold cellN cellB
  omega
def optV : Option Nat → V
  | none => .non
  | some n => vi n
def bitsL (D : List Nd) : List V := vi NO :: vi NO :: D.map fun n => vi n.b
def lowsL (D : List Nd) : List V := vi 0 :: vi 1 :: D.map fun n => vi n.l
def highsL (D : List Nd) : List V := vi 0 :: vi 1 :: D.map fun n => vi n.h
def waysL (D : List Nd) : List V := (List.range (D.length + 2)).map fun i => optV (wy D i)
def keyP (n : Nd) : List Key := [.inl (n.b : Int), .inl (n.l : Int), .inl (n.h : Int)]
def plcF : Nat → List Nd → List (List Key × V)
  | _, [] => []
  | i, n :: D => (keyP n, vi i) :: plcF (i + 1) D
def plcL (D : List Nd) : List (List Key × V) := plcF 2 D
def kindOf (ks : List Nat) : Str := if ks.length = 2 then "unlike" else "chosen"
/-- what is known -/
def KnOk (D : List Nd) (L : NL) : Prop := ∀ p ∈ L, ∃ (ks : List Nat) (r : Nat), p.1 = (kindOf ks, ks.map fun k : Nat => (k : Int)) ∧ p.2.2 = vi r ∧ Made D ks r
abbrev dgL (a : Nat → Addr) : List Addr := [a 1, a 2, a 3, a 4, a 5, a 6]
/-- a diagram -/
structure Dg (K : PySem.W.Frag) (w : World) (P : Program) (H : Hp) (d : Addr) (a : Nat → Addr) (most : Nat) (D : List Nd) (L : NL) : Prop where
  ins : ∃ dx, H d = some (.ins (DC K) dx [("most", vi most), ("whole", vi 1), ("bits", .ref (a 1)), ("lows", .ref (a 2)), ("highs", .ref (a 3)), ("ways", .ref (a 4)), ("places", .ref (a 5)), ("known", .ref (a 6))])
  h1 : H (a 1) = some (.lst (bitsL D))
  h2 : H (a 2) = some (.lst (lowsL D))
  h3 : H (a 3) = some (.lst (highsL D))
  h4 : H (a 4) = some (.lst (waysL D))
  h5 : H (a 5) = some (.dT (plcL D))
  h6 : H (a 6) = some (NdO P w (a 6) L)
  keys : NkAll H L
  apart : (dgL a).Nodup
  ok : Ok D
  b64 : ∀ n ∈ D, n.b < 64
  fits : D.length ≤ most ∧ most ≤ 5000 ∧ L.length ≤ 100000
  known : KnOk D L
def sp_L_mixed : Sp := fun vs H Q _ => ∃ (n k : Int), vs = [.int n, .int k] ∧ (0 ≤ k ∧ k ≤ 100000) ∧ RetV (.int (mixN n k)) H Q
def sp_L_cell (K : PySem.W.Frag) : Sp := fun vs H Q _ => ∃ (a : Addr) (ns : List Int) (k : Int), vs = [.ref a, .int k] ∧ SqL K H a (ns.map V.int) ∧ (0 ≤ k ∧ k ≤ 100000) ∧ RetV (.int (cellN ns k)) H Q
def sp_Diagrams_init (K : PySem.W.Frag) (w : World) (P : Program) : Sp := fun vs H Q _ => ∃ (d dx : Addr) (most : Nat), vs = [.ref d, vi most] ∧ H d = some (.ins (DC K) dx []) ∧ most ≤ 5000 ∧ ∀ H' a, Dg K w P H' d a most [] [] → (∀ b ∈ dgL a, H b = none) → But [d] H H' → Q .non H'
def sp_Diagrams_how_many (K : PySem.W.Frag) (w : World) (P : Program) : Sp := fun vs H Q _ => ∃ (d : Addr) (a : Nat → Addr) (most : Nat) (D : List Nd) (L : NL), vs = [.ref d] ∧ Dg K w P H d a most D L ∧ RetV (vi D.length) H Q
def sp_p_way_by : Sp := fun vs H Q _ => ∃ (b : Nat) (lo hi : Option Nat), vs = [vi b, optV lo, optV hi] ∧ b < 64 ∧ RetV (optV (wayBy b lo hi)) H Q
def sp_Diagrams_p_side (K : PySem.W.Frag) (w : World) (P : Program) : Sp := fun vs H Q _ => ∃ (d : Addr) (a : Nat → Addr) (most : Nat) (D : List Nd) (L : NL) (i b : Nat) (c : Bool), vs = [.ref d, vi i, vi b, vi (if c then 1 else 0)] ∧ Dg K w P H d a most D L ∧ i < D.length + 2 ∧ b < NO ∧ RetV (vi (side D i b c)) H Q
/-- a knot is told: of what stands, or a new one, or there are too many -/
def sp_Diagrams_p_knot (K : PySem.W.Frag) (w : World) (P : Program) : Sp := fun vs H Q E => ∃ (d : Addr) (a : Nat → Addr) (most : Nat) (D : List Nd) (L : NL) (n : Nd), vs = [.ref d, vi n.b, vi n.l, vi n.h] ∧ Dg K w P H d a most D L ∧ Fit D n ∧ n.b < 64 ∧ (((kn D n).length ≤ most ∧ ∀ H', Dg K w P H' d a most (kn D n) L → But (dgL a) H H' → Q (vi (kr D n)) H') ∨ (n.l ≠ n.h ∧ n ∉ D ∧ D.length = most ∧ ∀ H', Ex H H' → E (.ref (He.ga K "TooMany")) none H'))
def sp_Diagrams_bit (K : PySem.W.Frag) (w : World) (P : Program) : Sp := fun vs H Q E => ∃ (d : Addr) (a : Nat → Addr) (most : Nat) (D : List Nd) (L : NL) (b : Nat), vs = [.ref d, vi b] ∧ Dg K w P H d a most D L ∧ b < 64 ∧ (((kn D ⟨b, 0, 1⟩).length ≤ most ∧ ∀ H', Dg K w P H' d a most (kn D ⟨b, 0, 1⟩) L → But (dgL a) H H' → Q (vi (kr D ⟨b, 0, 1⟩)) H') ∨ (⟨b, 0, 1⟩ ∉ D ∧ D.length = most ∧ ∀ H', Ex H H' → E (.ref (He.ga K "TooMany")) none H'))
def bitT (p : Nat) : Nat := (((List.range 32).filter fun m => m.testBit p).map fun m => 2 ^ m).sum
def sp_L_bit : Sp := fun vs H Q _ => ∃ (p : Nat), vs = [vi p] ∧ p < 5 ∧ RetV (vi (bitT p)) H Q
def sp_Diagrams_p_choice (K : PySem.W.Frag) (w : World) (P : Program) (n : Nat) : Sp := fun vs H Q _ => ∃ (d : Addr) (a : Nat → Addr) (most : Nat) (D : List Nd) (L : NL) (b l h c : Nat), vs = [.ref d, vi b, vi l, vi h] ∧ c < n ∧ Dg K w P H d a most D L ∧ Five D ∧ (b < 5 ∧ l < D.length + 2 ∧ h < D.length + 2) ∧ (5 ≤ b + c ∧ 5 ≤ bitAt D l + c ∧ 5 ≤ bitAt D h + c) ∧ D.length + 2 ^ c ≤ most + 1 ∧ ∀ H' D' r, Dg K w P H' d a most D' L → Mo D D' → Five D' → D'.length + 1 ≤ D.length + 2 ^ c → Chs D' b l h r → But (dgL a) H H' → Q (vi r) H'
def sp_p_known_by_rule (K : PySem.W.Frag) : Sp := fun vs H Q _ => ∃ (q : Addr) (ks : List Nat), vs = [.str (kindOf ks), .ref q] ∧ H q = some (.tup (ks.map vi)) ∧ Len ks ∧ RetV (optV (ruleL ks)) H Q
def sp_Diagrams_p_made (K : PySem.W.Frag) (w : World) (P : Program) (n : Nat) : Sp := fun vs H Q _ => ∃ (d q : Addr) (a : Nat → Addr) (most : Nat) (D : List Nd) (L : NL) (kind : Str) (ks : List Nat) (c : Nat), vs = [.ref d, .str kind, .ref q] ∧ c < n ∧ Dg K w P H d a most D L ∧ Five D ∧ H q = some (.tup (ks.map vi)) ∧ D.length + 2 ^ c ≤ most + 1 ∧ L.length + 2 ^ c ≤ 90001 ∧ ((kind = kindOf ks ∧ Len ks ∧ (∀ k ∈ ks, k < D.length + 2 ∧ 5 ≤ bitAt D k + c) ∧ ∀ H' D' L' r, Dg K w P H' d a most D' L' → Mo D D' → Five D' → D'.length + 1 ≤ D.length + 2 ^ c → L'.length + 1 ≤ L.length + 2 ^ c → Made D' ks r → But (dgL a) H H' → Q (vi r) H') ∨ (kind = "choice" ∧ c = 5 ∧ ∃ b l h, ks = [b, l, h] ∧ (b < 5 ∧ l < D.length + 2 ∧ h < D.length + 2) ∧ ∀ H' D' r, Dg K w P H' d a most D' L → Mo D D' → Five D' → D'.length + 1 ≤ D.length + 2 ^ c → Chs D' b l h r → But (dgL a) H H' → Q (vi r) H'))
def Rm (D : List Nd) (L : NL) (most : Nat) : Prop := Five D ∧ D.length + 31 ≤ most ∧ L.length + 31 ≤ 90000
/-- a knot is told, of which f holds -/
def Told (K : PySem.W.Frag) (w : World) (P : Program) (d : Addr) (a : Nat → Addr) (most : Nat) (D : List Nd) (L : NL) (H : Hp) (Q : VK) (f : (Nat → Bool) → Bool) : Prop := ∀ H' D' L' r, Dg K w P H' d a most D' L' → Mo D D' → Five D' → D'.length ≤ D.length + 31 → L'.length ≤ L.length + 31 → r < D'.length + 2 → (∀ u, val D' u r = f u) → But (dgL a) H H' → Q (vi r) H'
def sp_Diagrams_p_whole (K : PySem.W.Frag) (w : World) (P : Program) : Sp := fun vs H Q _ => ∃ (d q : Addr) (a : Nat → Addr) (most : Nat) (D : List Nd) (L : NL) (kind : Str) (ks : List Nat), vs = [.ref d, .str kind, .ref q] ∧ Dg K w P H d a most D L ∧ Rm D L most ∧ H q = some (.tup (ks.map vi)) ∧ ((kind = kindOf ks ∧ Len ks ∧ (∀ k ∈ ks, k < D.length + 2) ∧ Told K w P d a most D L H Q (fun u => opL (ks.map (val D u)))) ∨ (kind = "choice" ∧ ∃ b l h, ks = [b, l, h] ∧ (b < 5 ∧ l < D.length + 2 ∧ h < D.length + 2) ∧ Told K w P d a most D L H Q (fun u => if u b then val D u h else val D u l)))
def sp_Diagrams_both (K : PySem.W.Frag) (w : World) (P : Program) : Sp := fun vs H Q _ => ∃ (d : Addr) (a : Nat → Addr) (most : Nat) (D : List Nd) (L : NL) (x y : Nat), vs = [.ref d, vi x, vi y] ∧ Dg K w P H d a most D L ∧ Rm D L most ∧ (x < D.length + 2 ∧ y < D.length + 2) ∧ Told K w P d a most D L H Q (fun u => val D u x && val D u y)
def sp_Diagrams_either (K : PySem.W.Frag) (w : World) (P : Program) : Sp := fun vs H Q _ => ∃ (d : Addr) (a : Nat → Addr) (most : Nat) (D : List Nd) (L : NL) (x y : Nat), vs = [.ref d, vi x, vi y] ∧ Dg K w P H d a most D L ∧ Rm D L most ∧ (x < D.length + 2 ∧ y < D.length + 2) ∧ Told K w P d a most D L H Q (fun u => val D u x || val D u y)
def sp_Diagrams_unlike (K : PySem.W.Frag) (w : World) (P : Program) : Sp := fun vs H Q _ => ∃ (d : Addr) (a : Nat → Addr) (most : Nat) (D : List Nd) (L : NL) (x y : Nat), vs = [.ref d, vi x, vi y] ∧ Dg K w P H d a most D L ∧ Rm D L most ∧ (x < D.length + 2 ∧ y < D.length + 2) ∧ Told K w P d a most D L H Q (fun u => val D u x != val D u y)
def sp_Diagrams_turned (K : PySem.W.Frag) (w : World) (P : Program) : Sp := fun vs H Q _ => ∃ (d : Addr) (a : Nat → Addr) (most : Nat) (D : List Nd) (L : NL) (x : Nat), vs = [.ref d, vi x] ∧ Dg K w P H d a most D L ∧ Rm D L most ∧ x < D.length + 2 ∧ Told K w P d a most D L H Q (fun u => !val D u x)
def sp_Diagrams_chosen (K : PySem.W.Frag) (w : World) (P : Program) : Sp := fun vs H Q _ => ∃ (d : Addr) (a : Nat → Addr) (most : Nat) (D : List Nd) (L : NL) (t x y : Nat), vs = [.ref d, vi t, vi x, vi y] ∧ Dg K w P H d a most D L ∧ Rm D L most ∧ (t < D.length + 2 ∧ x < D.length + 2 ∧ y < D.length + 2) ∧ Told K w P d a most D L H Q (fun u => if val D u t then val D u x else val D u y)
def sp_Diagrams_choice (K : PySem.W.Frag) (w : World) (P : Program) : Sp := fun vs H Q _ => ∃ (d : Addr) (a : Nat → Addr) (most : Nat) (D : List Nd) (L : NL) (b l h : Nat), vs = [.ref d, vi b, vi l, vi h] ∧ Dg K w P H d a most D L ∧ Rm D L most ∧ (b < 5 ∧ l < D.length + 2 ∧ h < D.length + 2) ∧ Told K w P d a most D L H Q (fun u => if u b then val D u h else val D u l)
def sp_Diagrams_beyond (K : PySem.W.Frag) (w : World) (P : Program) : Sp := fun vs H Q _ => ∃ (d : Addr) (a : Nat → Addr) (most : Nat) (D : List Nd) (L : NL) (k z m : Nat), vs = [.ref d, vi k, vi z, vi m] ∧ Dg K w P H d a most D L ∧ k < D.length + 2 ∧ z ≤ NO ∧ ∀ H' r, r < D.length + 2 → z ≤ bitAt D r → (∀ u, (∀ b, b < z → u b = wd m b) → val D u r = val D u k) → Ex H H' → Q (vi r) H'
def sp_Diagrams_told (K : PySem.W.Frag) (w : World) (P : Program) : Sp := fun vs H Q _ => ∃ (d : Addr) (a : Nat → Addr) (most : Nat) (D : List Nd) (L : NL) (k m : Nat), vs = [.ref d, vi k, vi m] ∧ Dg K w P H d a most D L ∧ k < D.length + 2 ∧ RetV (vi (val D (wd m) k).toNat) H Q
def sp_Diagrams_way (K : PySem.W.Frag) (w : World) (P : Program) : Sp := fun vs H Q _ => ∃ (d : Addr) (a : Nat → Addr) (most : Nat) (D : List Nd) (L : NL) (k : Nat), vs = [.ref d, vi k] ∧ Dg K w P H d a most D L ∧ k < D.length + 2 ∧ RetV (optV (wy D k)) H Q
/-- rows of knots and truths -/
def PrAt (H : Hp) (r : Addr) (ps : List (Nat × Nat)) : Prop := ∃ qs : List Addr, qs.length = ps.length ∧ H r = some (.lst (qs.map V.ref)) ∧ ∀ (i : Nat) q p, qs[i]? = some q → ps[i]? = some p → H q = some (.tup [vi p.1, vi p.2])
def sp_L_made (K : PySem.W.Frag) (w : World) (P : Program) : Sp := fun vs H Q _ => ∃ (d r : Addr) (a : Nat → Addr) (most : Nat) (D : List Nd) (L : NL) (ps : List (Nat × Nat)) (n : Int), vs = [.ref d, .ref r, .int n] ∧ Dg K w P H d a most D L ∧ Rm D L most ∧ 0 ≤ n ∧ PrAt H r ps ∧ (0 < ps.length ∧ ps.length ≤ 100) ∧ (∀ p ∈ ps, PrOk D p) ∧ ∀ H' D' L' q p, Dg K w P H' d a most D' L' → Mo D D' → Five D' → D'.length ≤ D.length + 31 → L'.length ≤ L.length + 31 → H' q = some (.tup [vi p.1, vi p.2]) → PrOk D' p → But (dgL a) H H' → Q (.ref q) H'
def sp_L_right (K : PySem.W.Frag) (w : World) (P : Program) : Sp := fun vs H Q _ => ∃ (d : Addr) (a : Nat → Addr) (most : Nat) (D : List Nd) (L : NL) (k t : Nat) (n : Int), vs = [.ref d, vi k, vi t, .int n] ∧ Dg K w P H d a most D L ∧ Five D ∧ PrOk D (k, t) ∧ 0 ≤ n ∧ RetV (.bl true) H Q
def sp_L_full : Sp := fun vs H Q _ => ∃ (m : Nat), vs = [vi m] ∧ (1 ≤ m ∧ m ≤ 9) ∧ RetV (.bl true) H Q
def sp_law (K : PySem.W.Frag) : Sp := fun vs H Q _ => ∃ (a : Addr) (ns : List Int), vs = [.ref a] ∧ SqL K H a (ns.map V.int) ∧ ns.length ≤ 63 ∧ RetV (.bl true) H Q
theorem no_Diagrams_p_choice {K : PySem.W.Frag} {w : World} {P : Program} : ∀ vs H Q E, ¬ sp_Diagrams_p_choice K w P 0 vs H Q E := fun vs H Q E h => by
  obtain ⟨d, a, most, D, L, b, l, h, c, _, hc, _⟩ := h
  exact absurd hc (Nat.not_lt_zero _)
theorem no_Diagrams_p_made {K : PySem.W.Frag} {w : World} {P : Program} : ∀ vs H Q E, ¬ sp_Diagrams_p_made K w P 0 vs H Q E := fun vs H Q E h => by
  obtain ⟨d, q, a, most, D, L, kind, ks, c, _, hc, _⟩ := h
  exact absurd hc (Nat.not_lt_zero _)
section
variable {K : PySem.W.Frag} {w : World} {P : Program}

theorem len_Diagrams_init {K : PySem.W.Frag} {w : World} {P : Program} : ∀ vs H Q E, sp_Diagrams_init K w P vs H Q E → vs.length = 2 := by
  intro vs H Q E h
  obtain ⟨_, _, _, rfl, _⟩ := h
  rfl
theorem len_Diagrams_how_many {K : PySem.W.Frag} {w : World} {P : Program} : ∀ vs H Q E, sp_Diagrams_how_many K w P vs H Q E → vs.length = 1 := by
  intro vs H Q E h
  obtain ⟨_, _, _, _, _, rfl, _⟩ := h
  rfl
theorem len_L_mixed : ∀ vs H Q E, sp_L_mixed vs H Q E → vs.length = 2 := by
  intro vs H Q E h
  obtain ⟨_, _, rfl, _⟩ := h
  rfl
theorem len_p_way_by : ∀ vs H Q E, sp_p_way_by vs H Q E → vs.length = 3 := by
  intro vs H Q E h
  obtain ⟨_, _, _, rfl, _⟩ := h
  rfl
theorem len_Diagrams_p_knot {K : PySem.W.Frag} {w : World} {P : Program} : ∀ vs H Q E, sp_Diagrams_p_knot K w P vs H Q E → vs.length = 4 := by
  intro vs H Q E h
  obtain ⟨_, _, _, _, _, _, rfl, _⟩ := h
  rfl
theorem len_Diagrams_bit {K : PySem.W.Frag} {w : World} {P : Program} : ∀ vs H Q E, sp_Diagrams_bit K w P vs H Q E → vs.length = 2 := by
  intro vs H Q E h
  obtain ⟨_, _, _, _, _, _, rfl, _⟩ := h
  rfl
theorem len_L_bit : ∀ vs H Q E, sp_L_bit vs H Q E → vs.length = 1 := by
  intro vs H Q E h
  obtain ⟨_, rfl, _⟩ := h
  rfl
theorem len_Diagrams_p_side {K : PySem.W.Frag} {w : World} {P : Program} : ∀ vs H Q E, sp_Diagrams_p_side K w P vs H Q E → vs.length = 4 := by
  intro vs H Q E h
  obtain ⟨_, _, _, _, _, _, _, _, rfl, _⟩ := h
  rfl
theorem len_Diagrams_p_choice {K : PySem.W.Frag} {w : World} {P : Program} {n : Nat} : ∀ vs H Q E, sp_Diagrams_p_choice K w P n vs H Q E → vs.length = 4 := by
  intro vs H Q E h
  obtain ⟨_, _, _, _, _, _, _, _, _, rfl, _⟩ := h
  rfl
theorem len_p_known_by_rule {K : PySem.W.Frag} : ∀ vs H Q E, sp_p_known_by_rule K vs H Q E → vs.length = 2 := by
  intro vs H Q E h
  obtain ⟨_, _, rfl, _⟩ := h
  rfl
theorem len_Diagrams_p_made {K : PySem.W.Frag} {w : World} {P : Program} {n : Nat} : ∀ vs H Q E, sp_Diagrams_p_made K w P n vs H Q E → vs.length = 3 := by
  intro vs H Q E h
  obtain ⟨_, _, _, _, _, _, _, _, _, rfl, _⟩ := h
  rfl
theorem len_Diagrams_p_whole {K : PySem.W.Frag} {w : World} {P : Program} : ∀ vs H Q E, sp_Diagrams_p_whole K w P vs H Q E → vs.length = 3 := by
  intro vs H Q E h
  obtain ⟨_, _, _, _, _, _, _, _, rfl, _⟩ := h
  rfl
theorem len_Diagrams_both {K : PySem.W.Frag} {w : World} {P : Program} : ∀ vs H Q E, sp_Diagrams_both K w P vs H Q E → vs.length = 3 := by
  intro vs H Q E h
  obtain ⟨_, _, _, _, _, _, _, rfl, _⟩ := h
  rfl
theorem len_Diagrams_either {K : PySem.W.Frag} {w : World} {P : Program} : ∀ vs H Q E, sp_Diagrams_either K w P vs H Q E → vs.length = 3 := by
  intro vs H Q E h
  obtain ⟨_, _, _, _, _, _, _, rfl, _⟩ := h
  rfl
theorem len_Diagrams_unlike {K : PySem.W.Frag} {w : World} {P : Program} : ∀ vs H Q E, sp_Diagrams_unlike K w P vs H Q E → vs.length = 3 := by
  intro vs H Q E h
  obtain ⟨_, _, _, _, _, _, _, rfl, _⟩ := h
  rfl
theorem len_Diagrams_turned {K : PySem.W.Frag} {w : World} {P : Program} : ∀ vs H Q E, sp_Diagrams_turned K w P vs H Q E → vs.length = 2 := by
  intro vs H Q E h
  obtain ⟨_, _, _, _, _, _, rfl, _⟩ := h
  rfl
theorem len_Diagrams_chosen {K : PySem.W.Frag} {w : World} {P : Program} : ∀ vs H Q E, sp_Diagrams_chosen K w P vs H Q E → vs.length = 4 := by
  intro vs H Q E h
  obtain ⟨_, _, _, _, _, _, _, _, rfl, _⟩ := h
  rfl
theorem len_Diagrams_choice {K : PySem.W.Frag} {w : World} {P : Program} : ∀ vs H Q E, sp_Diagrams_choice K w P vs H Q E → vs.length = 4 := by
  intro vs H Q E h
  obtain ⟨_, _, _, _, _, _, _, _, rfl, _⟩ := h
  rfl
theorem len_L_made {K : PySem.W.Frag} {w : World} {P : Program} : ∀ vs H Q E, sp_L_made K w P vs H Q E → vs.length = 3 := by
  intro vs H Q E h
  obtain ⟨_, _, _, _, _, _, _, _, rfl, _⟩ := h
  rfl
theorem len_Diagrams_beyond {K : PySem.W.Frag} {w : World} {P : Program} : ∀ vs H Q E, sp_Diagrams_beyond K w P vs H Q E → vs.length = 4 := by
  intro vs H Q E h
  obtain ⟨_, _, _, _, _, _, _, _, rfl, _⟩ := h
  rfl
theorem len_Diagrams_told {K : PySem.W.Frag} {w : World} {P : Program} : ∀ vs H Q E, sp_Diagrams_told K w P vs H Q E → vs.length = 3 := by
  intro vs H Q E h
  obtain ⟨_, _, _, _, _, _, _, rfl, _⟩ := h
  rfl
theorem len_Diagrams_way {K : PySem.W.Frag} {w : World} {P : Program} : ∀ vs H Q E, sp_Diagrams_way K w P vs H Q E → vs.length = 2 := by
  intro vs H Q E h
  obtain ⟨_, _, _, _, _, _, rfl, _⟩ := h
  rfl
theorem len_L_right {K : PySem.W.Frag} {w : World} {P : Program} : ∀ vs H Q E, sp_L_right K w P vs H Q E → vs.length = 4 := by
  intro vs H Q E h
  obtain ⟨_, _, _, _, _, _, _, _, rfl, _⟩ := h
  rfl
theorem len_L_full : ∀ vs H Q E, sp_L_full vs H Q E → vs.length = 1 := by
  intro vs H Q E h
  obtain ⟨_, rfl, _⟩ := h
  rfl
theorem len_L_cell {K : PySem.W.Frag} : ∀ vs H Q E, sp_L_cell K vs H Q E → vs.length = 2 := by
  intro vs H Q E h
  obtain ⟨_, _, _, rfl, _⟩ := h
  rfl
theorem len_law {K : PySem.W.Frag} : ∀ vs H Q E, sp_law K vs H Q E → vs.length = 1 := by
  intro vs H Q E h
  obtain ⟨_, _, rfl, _⟩ := h
  rfl
/-- Diagrams_init -/
def rd_Diagrams_init (K : PySem.W.Frag) (w : World) (P : Program) : TS :=
  (tSeq (sFld K (tVar 0) (tVar 1) "most")
    (tSeq (sFld K (tVar 0) (tC (.int 1)) "whole")
    (tSeq (sFld K (tVar 0) (tLst (tCons (tC (.int 1000000)) (tCons (tC (.int 1000000)) tNil))) "bits")
    (tSeq (sFld K (tVar 0) (tLst (tCons (tC (.int 0)) (tCons (tC (.int 1)) tNil))) "lows")
    (tSeq (sFld K (tVar 0) (tLst (tCons (tC (.int 0)) (tCons (tC (.int 1)) tNil))) "highs")
    (tSeq (sFld K (tVar 0) (tLst (tCons (tC .non) (tCons (tC (.int 0)) tNil))) "ways")
    (tSeq (sFld K (tVar 0) tDNewT "places")
    (sFld K (tVar 0) (ZDN.tNNew P w) "known"))))))))


/-- Diagrams_how_many -/
def rd_Diagrams_how_many (K : PySem.W.Frag) : TS :=
  (tRet (tOp rSubI (tCB (cLenSeq K) (tCons (tFld K (tVar 0) "bits") tNil)) (tC (.int 2))))


/-- L_mixed -/
def rd_L_mixed : TS :=
  (tRet (tOp rDivI (tOp rModI (tOp rMulI (tOp rModI (tOp rMulI (tOp rAddI (tOp rAddI (tOp rAddI (tVar 0) (tOp rMulI (tOp rMulI (tC (.int 7919)) (tVar 1)) (tVar 1))) (tOp rMulI (tC (.int 31)) (tVar 1))) (tC (.int 1))) (tC (.int 48271))) (tC (.int 2147483647))) (tC (.int 69621))) (tC (.int 2147483629))) (tC (.int 64))))


/-- p_way_by -/
def rd_p_way_by : TS :=
  (tSeq (tIfS (tB (tIsN (tVar 2))) (tRet (tVar 1))
    tNext)
    (tSeq (tIfS (tB (tIsN (tVar 1))) (tRet (tOp rAddI (tVar 2) (tOp rShlI (tC (.int 1)) (tVar 0))))
    tNext)
    (tRet (tCB cMin2 (tCons (tVar 1) (tCons (tOp rAddI (tVar 2) (tOp rShlI (tC (.int 1)) (tVar 0))) tNil))))))


/-- Diagrams_p_knot -/
def rd_Diagrams_p_knot (K : PySem.W.Frag) (w : World) (P : Program) (E : XK) : TS :=
  (tSeq (tIfS (tTest (tOp rEq (tVar 2) (tVar 3))) (tRet (tVar 2))
    tNext)
    (tSeq (tIfS (tB (tDNotIn (tTup (tCons (tVar 1) (tCons (tVar 2) (tCons (tVar 3) tNil)))) (tFld K (tVar 0) "places"))) (tSeq (tIfS (tTest (tOp rGeI (tMeth (He.ga K "Diagrams") "how_many" (sp_Diagrams_how_many K w P) [] E0 (tVar 0) tNil) (tFld K (tVar 0) "most"))) (ZZ.sRz (He.ga K "TooMany") (tCons (ZZ.tFs [(tC (.str "more than ")), (tFmt (tFld K (tVar 0) "most")), (tC (.str " knots"))]) tNil) E)
    tNext)
    (tSeq (sDPut (tFld K (tVar 0) "places") (tTup (tCons (tVar 1) (tCons (tVar 2) (tCons (tVar 3) tNil)))) (tCB (cLenSeq K) (tCons (tFld K (tVar 0) "bits") tNil)))
    (tSeq (tDrop (tBM K "list" rAppend (tFld K (tVar 0) "bits") (tCons (tVar 1) tNil)))
    (tSeq (tDrop (tBM K "list" rAppend (tFld K (tVar 0) "lows") (tCons (tVar 2) tNil)))
    (tSeq (tDrop (tBM K "list" rAppend (tFld K (tVar 0) "highs") (tCons (tVar 3) tNil)))
    (tDrop (tBM K "list" rAppend (tFld K (tVar 0) "ways") (tCons (tCall sp_p_way_by [] E0 (tCons (tVar 1) (tCons (tOp (rIxL K) (tFld K (tVar 0) "ways") (tVar 2)) (tCons (tOp (rIxL K) (tFld K (tVar 0) "ways") (tVar 3)) tNil)))) tNil))))))))
    tNext)
    (tRet (tDGet (tFld K (tVar 0) "places") (tTup (tCons (tVar 1) (tCons (tVar 2) (tCons (tVar 3) tNil))))))))


/-- Diagrams_bit -/
def rd_Diagrams_bit (K : PySem.W.Frag) (w : World) (P : Program) (E : XK) : TS :=
  (tRet (tMeth (He.ga K "Diagrams") "_knot" (sp_Diagrams_p_knot K w P) [] E (tVar 0) (tCons (tVar 1) (tCons (tC (.int 0)) (tCons (tC (.int 1)) tNil)))))


/-- L_bit -/
def rd_L_bit (K : PySem.W.Frag) : TS :=
  (tRet (tCB (rSum K) (tCons (tLc (iRng1 (tCons (tC (.int 32)) tNil)) (gName 1) (tTest (tOp rEq (tOp rAndI (tOp rShrI (tVar 1) (tVar 0)) (tC (.int 1))) (tC (.int 1)))) (tOp rShlI (tC (.int 1)) (tVar 1)) [1]) tNil)))


/-- Diagrams_p_side -/
def rd_Diagrams_p_side (K : PySem.W.Frag) : TS :=
  (tSeq (tIfS (tTest (tOp rNe (tOp (rIxL K) (tFld K (tVar 0) "bits") (tVar 1)) (tVar 2))) (tRet (tVar 1))
    tNext)
    (tRet (tIf (tTest (tOp rEq (tVar 3) (tC (.int 1)))) (tOp (rIxL K) (tFld K (tVar 0) "highs") (tVar 1)) (tOp (rIxL K) (tFld K (tVar 0) "lows") (tVar 1)))))


/-- Diagrams_p_choice -/
def rd_Diagrams_p_choice (K : PySem.W.Frag) (w : World) (P : Program) (R_Diagrams_p_choice : Sp) : TS :=
  (tSeq (tAsg (tCB (rNuC3 nuMin3) (tCons (tVar 1) (tCons (tOp (rIxL K) (tFld K (tVar 0) "bits") (tVar 2)) (tCons (tOp (rIxL K) (tFld K (tVar 0) "bits") (tVar 3)) tNil)))) (gName 4))
    (tSeq (tAsg (tTup (tCons (tMeth (He.ga K "Diagrams") "_side" (sp_Diagrams_p_side K w P) [] E0 (tVar 0) (tCons (tVar 2) (tCons (tVar 4) (tCons (tC (.int 0)) tNil)))) (tCons (tMeth (He.ga K "Diagrams") "_side" (sp_Diagrams_p_side K w P) [] E0 (tVar 0) (tCons (tVar 3) (tCons (tVar 4) (tCons (tC (.int 0)) tNil)))) tNil))) (gName 5))
    (tSeq (tAsg (tTup (tCons (tMeth (He.ga K "Diagrams") "_side" (sp_Diagrams_p_side K w P) [] E0 (tVar 0) (tCons (tVar 2) (tCons (tVar 4) (tCons (tC (.int 1)) tNil)))) (tCons (tMeth (He.ga K "Diagrams") "_side" (sp_Diagrams_p_side K w P) [] E0 (tVar 0) (tCons (tVar 3) (tCons (tVar 4) (tCons (tC (.int 1)) tNil)))) tNil))) (gName 6))
    (tSeq (tIfS (tTest (tOp rEq (tVar 4) (tVar 1))) (tRet (tMeth (He.ga K "Diagrams") "_knot" (sp_Diagrams_p_knot K w P) [] E0 (tVar 0) (tCons (tVar 1) (tCons (tOp (rIxT K) (tVar 5) (tC (.int 0))) (tCons (tOp (rIxT K) (tVar 6) (tC (.int 1))) tNil)))))
    tNext)
    (tRet (tMeth (He.ga K "Diagrams") "_knot" (sp_Diagrams_p_knot K w P) [] E0 (tVar 0) (tCons (tVar 4) (tCons (tMeth (He.ga K "Diagrams") "_choice" R_Diagrams_p_choice [] E0 (tVar 0) (tCons (tVar 1) (tCons (tOp (rIxT K) (tVar 5) (tC (.int 0))) (tCons (tOp (rIxT K) (tVar 5) (tC (.int 1))) tNil)))) (tCons (tMeth (He.ga K "Diagrams") "_choice" R_Diagrams_p_choice [] E0 (tVar 0) (tCons (tVar 1) (tCons (tOp (rIxT K) (tVar 6) (tC (.int 0))) (tCons (tOp (rIxT K) (tVar 6) (tC (.int 1))) tNil)))) tNil)))))))))


/-- p_known_by_rule -/
def rd_p_known_by_rule (K : PySem.W.Frag) : TS :=
  (tSeq (tIfS (tTest (tOp rEq (tVar 0) (tC (.str "unlike")))) (tSeq (tAsg (tVar 1) (gTup K 2 (gCons (gName 2) (gCons (gName 3) gNil))))
    (tSeq (tIfS (tTest (tOp rEq (tVar 2) (tVar 3))) (tRet (tC (.int 0)))
    tNext)
    (tSeq (tIfS (tTest (tOp rEq (tVar 3) (tC (.int 0)))) (tRet (tVar 2))
    tNext)
    (tRet (tIf (tTest (tOp rEq (tVar 2) (tC (.int 0)))) (tVar 3) (tC .non))))))
    tNext)
    (tSeq (tAsg (tVar 1) (gTup K 3 (gCons (gName 4) (gCons (gName 2) (gCons (gName 3) gNil)))))
    (tSeq (tIfS (tOr (tTest (tOp rEq (tVar 4) (tC (.int 1)))) (tTest (tOp rEq (tVar 2) (tVar 3)))) (tRet (tVar 2))
    tNext)
    (tSeq (tIfS (tTest (tOp rEq (tVar 4) (tC (.int 0)))) (tRet (tVar 3))
    tNext)
    (tSeq (tIfS (tAnd (tTest (tOp rEq (tVar 3) (tC (.int 0)))) (tTest (tOp (rIn K false) (tVar 2) (tTup (tCons (tC (.int 1)) (tCons (tVar 4) tNil)))))) (tRet (tVar 4))
    tNext)
    (tRet (tIf (tAnd (tTest (tOp rEq (tVar 2) (tC (.int 1)))) (tTest (tOp rEq (tVar 4) (tVar 3)))) (tVar 3) (tC .non))))))))


/-- Diagrams_p_made -/
def rd_Diagrams_p_made (K : PySem.W.Frag) (w : World) (P : Program) (R_Diagrams_p_made : Sp) : TS :=
  (tSeq (tIfS (tTest (tOp rEq (tVar 1) (tC (.str "choice")))) (tRet (tMeth (He.ga K "Diagrams") "_choice" (sp_Diagrams_p_choice K w P 7) [] E0 (tVar 0) (tCons (tOp (rIxT K) (tVar 2) (tC (.int 0))) (tCons (tOp (rIxT K) (tVar 2) (tC (.int 1))) (tCons (tOp (rIxT K) (tVar 2) (tC (.int 2))) tNil)))))
    tNext)
    (tSeq (tAsg (tCall (sp_p_known_by_rule K) [] E0 (tCons (tVar 1) (tCons (tVar 2) tNil))) (gName 3))
    (tSeq (tIfS (tB (tNotN (tVar 3))) (tRet (tVar 3))
    tNext)
    (tSeq (tIfS (tB (ZDN.tNNotIn P w (tTup (tCons (tVar 1) (tCons (tVar 2) tNil))) (tFld K (tVar 0) "known"))) (tSeq (tAsg (tCB (rMin K) (tCons (tLc (iTup K (tVar 2)) (gName 7) tYes (tOp (rIxL K) (tFld K (tVar 0) "bits") (tVar 7)) [7]) tNil)) (gName 4))
    (tSeq (tAsg (tMeth (He.ga K "Diagrams") "_made" R_Diagrams_p_made [] E0 (tVar 0) (tCons (tVar 1) (tCons (tCB (cTupOf K) (tCons (tLc (iTup K (tVar 2)) (gName 7) tYes (tMeth (He.ga K "Diagrams") "_side" (sp_Diagrams_p_side K w P) [] E0 (tVar 0) (tCons (tVar 7) (tCons (tVar 4) (tCons (tC (.int 0)) tNil)))) [7]) tNil)) tNil))) (gName 5))
    (tSeq (tAsg (tMeth (He.ga K "Diagrams") "_made" R_Diagrams_p_made [] E0 (tVar 0) (tCons (tVar 1) (tCons (tCB (cTupOf K) (tCons (tLc (iTup K (tVar 2)) (gName 7) tYes (tMeth (He.ga K "Diagrams") "_side" (sp_Diagrams_p_side K w P) [] E0 (tVar 0) (tCons (tVar 7) (tCons (tVar 4) (tCons (tC (.int 1)) tNil)))) [7]) tNil)) tNil))) (gName 6))
    (ZDN.sNPut P w (tFld K (tVar 0) "known") (tTup (tCons (tVar 1) (tCons (tVar 2) tNil))) (tMeth (He.ga K "Diagrams") "_knot" (sp_Diagrams_p_knot K w P) [] E0 (tVar 0) (tCons (tVar 4) (tCons (tVar 5) (tCons (tVar 6) tNil))))))))
    tNext)
    (tRet (ZDN.tNGet P w (tFld K (tVar 0) "known") (tTup (tCons (tVar 1) (tCons (tVar 2) tNil)))))))))


/-- Diagrams_p_whole -/
def rd_Diagrams_p_whole (K : PySem.W.Frag) (w : World) (P : Program) : TS :=
  (tSeq (tAsg (tCB (cLenSeq K) (tCons (tFld K (tVar 0) "bits") tNil)) (gName 3))
    (tRet (tMeth (He.ga K "Diagrams") "_made" (sp_Diagrams_p_made K w P 7) [] E0 (tVar 0) (tCons (tVar 1) (tCons (tVar 2) tNil)))))


/-- Diagrams_both -/
def rd_Diagrams_both (K : PySem.W.Frag) (w : World) (P : Program) : TS :=
  (tRet (tMeth (He.ga K "Diagrams") "_whole" (sp_Diagrams_p_whole K w P) [] E0 (tVar 0) (tCons (tC (.str "chosen")) (tCons (tTup (tCons (tCB cMin2 (tCons (tVar 1) (tCons (tVar 2) tNil))) (tCons (tCB cMax2 (tCons (tVar 1) (tCons (tVar 2) tNil))) (tCons (tC (.int 0)) tNil)))) tNil))))


/-- Diagrams_either -/
def rd_Diagrams_either (K : PySem.W.Frag) (w : World) (P : Program) : TS :=
  (tRet (tMeth (He.ga K "Diagrams") "_whole" (sp_Diagrams_p_whole K w P) [] E0 (tVar 0) (tCons (tC (.str "chosen")) (tCons (tTup (tCons (tCB cMin2 (tCons (tVar 1) (tCons (tVar 2) tNil))) (tCons (tC (.int 1)) (tCons (tCB cMax2 (tCons (tVar 1) (tCons (tVar 2) tNil))) tNil)))) tNil))))


/-- Diagrams_unlike -/
def rd_Diagrams_unlike (K : PySem.W.Frag) (w : World) (P : Program) : TS :=
  (tRet (tMeth (He.ga K "Diagrams") "_whole" (sp_Diagrams_p_whole K w P) [] E0 (tVar 0) (tCons (tC (.str "unlike")) (tCons (tTup (tCons (tCB cMin2 (tCons (tVar 1) (tCons (tVar 2) tNil))) (tCons (tCB cMax2 (tCons (tVar 1) (tCons (tVar 2) tNil))) tNil))) tNil))))


/-- Diagrams_turned -/
def rd_Diagrams_turned (K : PySem.W.Frag) (w : World) (P : Program) : TS :=
  (tRet (tMeth (He.ga K "Diagrams") "_whole" (sp_Diagrams_p_whole K w P) [] E0 (tVar 0) (tCons (tC (.str "unlike")) (tCons (tTup (tCons (tCB cMin2 (tCons (tVar 1) (tCons (tC (.int 1)) tNil))) (tCons (tCB cMax2 (tCons (tVar 1) (tCons (tC (.int 1)) tNil))) tNil))) tNil))))


/-- Diagrams_chosen -/
def rd_Diagrams_chosen (K : PySem.W.Frag) (w : World) (P : Program) : TS :=
  (tRet (tMeth (He.ga K "Diagrams") "_whole" (sp_Diagrams_p_whole K w P) [] E0 (tVar 0) (tCons (tC (.str "chosen")) (tCons (tTup (tCons (tVar 1) (tCons (tVar 2) (tCons (tVar 3) tNil)))) tNil))))


/-- Diagrams_choice -/
def rd_Diagrams_choice (K : PySem.W.Frag) (w : World) (P : Program) : TS :=
  (tRet (tMeth (He.ga K "Diagrams") "_whole" (sp_Diagrams_p_whole K w P) [] E0 (tVar 0) (tCons (tC (.str "choice")) (tCons (tTup (tCons (tVar 1) (tCons (tVar 2) (tCons (tVar 3) tNil)))) tNil))))


/-- L_made -/
def rd_L_made (K : PySem.W.Frag) (w : World) (P : Program) : TS :=
  (tSeq (tAsg (tTup (tCons (tOp rModI (tVar 2) (tC (.int 8))) (tCons (tOp rDivI (tVar 2) (tC (.int 8))) tNil))) (gTup K 2 (gCons (gName 3) (gCons (gName 4) gNil))))
    (tSeq (tAsg (tLc (iRng1 (tCons (tC (.int 3)) tNil)) (gName 13) tYes (tOp (rIxL K) (tVar 1) (tOp rModI (tCall sp_L_mixed [] E0 (tCons (tVar 4) (tCons (tVar 13) tNil))) (tCB (cLenSeq K) (tCons (tVar 1) tNil)))) [13]) (gLst K 3 (gCons (gName 5) (gCons (gName 6) (gCons (gName 7) gNil)))))
    (tSeq (tAsg (tOp rSubI (tOp rShlI (tC (.int 1)) (tC (.int 32))) (tC (.int 1))) (gName 8))
    (tSeq (tIfS (tTest (tOp rLtI (tVar 3) (tC (.int 2)))) (tRet (tTup (tCons (tMeth (He.ga K "Diagrams") "bit" (sp_Diagrams_bit K w P) [] E0 (tVar 0) (tCons (tOp rModI (tVar 4) (tC (.int 5))) tNil)) (tCons (tCall sp_L_bit [] E0 (tCons (tOp rModI (tVar 4) (tC (.int 5))) tNil)) tNil))))
    tNext)
    (tSeq (tIfS (tTest (tOp rEq (tVar 3) (tC (.int 2)))) (tRet (tTup (tCons (tMeth (He.ga K "Diagrams") "both" (sp_Diagrams_both K w P) [] E0 (tVar 0) (tCons (tOp (rIxT K) (tVar 5) (tC (.int 0))) (tCons (tOp (rIxT K) (tVar 6) (tC (.int 0))) tNil))) (tCons (tOp rAndI (tOp (rIxT K) (tVar 5) (tC (.int 1))) (tOp (rIxT K) (tVar 6) (tC (.int 1)))) tNil))))
    tNext)
    (tSeq (tIfS (tTest (tOp rEq (tVar 3) (tC (.int 3)))) (tRet (tTup (tCons (tMeth (He.ga K "Diagrams") "either" (sp_Diagrams_either K w P) [] E0 (tVar 0) (tCons (tOp (rIxT K) (tVar 5) (tC (.int 0))) (tCons (tOp (rIxT K) (tVar 6) (tC (.int 0))) tNil))) (tCons (tOp rOrI (tOp (rIxT K) (tVar 5) (tC (.int 1))) (tOp (rIxT K) (tVar 6) (tC (.int 1)))) tNil))))
    tNext)
    (tSeq (tIfS (tTest (tOp rEq (tVar 3) (tC (.int 4)))) (tRet (tTup (tCons (tMeth (He.ga K "Diagrams") "unlike" (sp_Diagrams_unlike K w P) [] E0 (tVar 0) (tCons (tOp (rIxT K) (tVar 5) (tC (.int 0))) (tCons (tOp (rIxT K) (tVar 6) (tC (.int 0))) tNil))) (tCons (tOp rXorI (tOp (rIxT K) (tVar 5) (tC (.int 1))) (tOp (rIxT K) (tVar 6) (tC (.int 1)))) tNil))))
    tNext)
    (tSeq (tIfS (tTest (tOp rEq (tVar 3) (tC (.int 5)))) (tRet (tTup (tCons (tMeth (He.ga K "Diagrams") "turned" (sp_Diagrams_turned K w P) [] E0 (tVar 0) (tCons (tOp (rIxT K) (tVar 5) (tC (.int 0))) tNil)) (tCons (tOp rXorI (tOp (rIxT K) (tVar 5) (tC (.int 1))) (tVar 8)) tNil))))
    tNext)
    (tSeq (tIfS (tTest (tOp rEq (tVar 3) (tC (.int 6)))) (tSeq (tAsg (tOp rOrI (tOp rAndI (tOp (rIxT K) (tVar 5) (tC (.int 1))) (tOp (rIxT K) (tVar 6) (tC (.int 1)))) (tOp rAndI (tOp rXorI (tOp (rIxT K) (tVar 5) (tC (.int 1))) (tVar 8)) (tOp (rIxT K) (tVar 7) (tC (.int 1))))) (gName 9))
    (tRet (tTup (tCons (tMeth (He.ga K "Diagrams") "chosen" (sp_Diagrams_chosen K w P) [] E0 (tVar 0) (tCons (tOp (rIxT K) (tVar 5) (tC (.int 0))) (tCons (tOp (rIxT K) (tVar 6) (tC (.int 0))) (tCons (tOp (rIxT K) (tVar 7) (tC (.int 0))) tNil)))) (tCons (tVar 9) tNil)))))
    tNext)
    (tSeq (tPar 10 11 (tCons (tOp (rIxL K) (tLst (tCons (tTup (tCons (tC (.int 0)) (tCons (tC (.int 0)) tNil))) (tCons (tTup (tCons (tC (.int 1)) (tCons (tVar 8) tNil))) tNil))) (tOp rModI (tVar 4) (tC (.int 2)))) (tCons (tOp (rIxL K) (tLst (tCons (tTup (tCons (tC (.int 1)) (tCons (tVar 8) tNil))) (tCons (tTup (tCons (tC (.int 0)) (tCons (tC (.int 0)) tNil))) tNil))) (tOp rModI (tOp rDivI (tVar 4) (tC (.int 2))) (tC (.int 2)))) tNil)))
    (tSeq (tAsg (tOp rModI (tOp rDivI (tVar 4) (tC (.int 4))) (tC (.int 5))) (gName 12))
    (tSeq (tAsg (tOp rOrI (tOp rAndI (tOp (rIxT K) (tVar 11) (tC (.int 1))) (tCall sp_L_bit [] E0 (tCons (tVar 12) tNil))) (tOp rAndI (tOp (rIxT K) (tVar 10) (tC (.int 1))) (tOp rXorI (tCall sp_L_bit [] E0 (tCons (tVar 12) tNil)) (tVar 8)))) (gName 9))
    (tRet (tTup (tCons (tMeth (He.ga K "Diagrams") "choice" (sp_Diagrams_choice K w P) [] E0 (tVar 0) (tCons (tVar 12) (tCons (tOp (rIxT K) (tVar 10) (tC (.int 0))) (tCons (tOp (rIxT K) (tVar 11) (tC (.int 0))) tNil)))) (tCons (tVar 9) tNil))))))))))))))))


/-- Diagrams_beyond -/
def rd_Diagrams_beyond (K : PySem.W.Frag) (w : World) (P : Program) : TS :=
  (tSeq (tWhile (tTest (tOp rLtI (tOp (rIxL K) (tFld K (tVar 0) "bits") (tVar 1)) (tVar 2))) (tAsg (tMeth (He.ga K "Diagrams") "_side" (sp_Diagrams_p_side K w P) [] E0 (tVar 0) (tCons (tVar 1) (tCons (tOp (rIxL K) (tFld K (tVar 0) "bits") (tVar 1)) (tCons (tOp rAndI (tOp rShrI (tVar 3) (tOp (rIxL K) (tFld K (tVar 0) "bits") (tVar 1))) (tC (.int 1))) tNil)))) (gName 1)))
    (tRet (tVar 1)))


/-- Diagrams_told -/
def rd_Diagrams_told (K : PySem.W.Frag) (w : World) (P : Program) : TS :=
  (tRet (tMeth (He.ga K "Diagrams") "beyond" (sp_Diagrams_beyond K w P) [] E0 (tVar 0) (tCons (tVar 1) (tCons (tC (.int 1000000)) (tCons (tVar 2) tNil)))))


/-- Diagrams_way -/
def rd_Diagrams_way (K : PySem.W.Frag) : TS :=
  (tRet (tOp (rIxL K) (tFld K (tVar 0) "ways") (tVar 1)))


/-- L_right -/
def rd_L_right (K : PySem.W.Frag) (w : World) (P : Program) : TS :=
  (tSeq (tIfS (tOr (tNot (tTru K (tCB (rIsi K) (tCons (tVar 1) (tCons (tC (.ty "int")) tNil))))) (tTru K (tCB (rIsi K) (tCons (tVar 1) (tCons (tC (.ty "bool")) tNil))))) (tRet (tC (.bl false)))
    tNext)
    (tSeq (tAsg (tOp rModI (tVar 3) (tC (.int 32))) (gName 4))
    (tSeq (tIfS (tTest (tOp rNe (tMeth (He.ga K "Diagrams") "told" (sp_Diagrams_told K w P) [] E0 (tVar 0) (tCons (tVar 1) (tCons (tVar 4) tNil))) (tOp rAndI (tOp rShrI (tVar 2) (tVar 4)) (tC (.int 1))))) (tRet (tC (.bl false)))
    tNext)
    (tSeq (tAsg (tLc (iRng1 (tCons (tC (.int 32)) tNil)) (gName 4) (tTest (tOp rEq (tOp rAndI (tOp rShrI (tVar 2) (tVar 4)) (tC (.int 1))) (tC (.int 1)))) (tVar 4) [4]) (gName 5))
    (tSeq (tIfS (tTest (tOp (rNeD K) (tMeth (He.ga K "Diagrams") "way" (sp_Diagrams_way K w P) [] E0 (tVar 0) (tCons (tVar 1) tNil)) (tCKw (ZDN.rMinD K) (tCons (tVar 5) tNil) (tCons (tC .non) tNil)))) (tRet (tC (.bl false)))
    tNext)
    (tSeq (tAsg (tOp rModI (tOp rDivI (tVar 3) (tC (.int 32))) (tC (.int 6))) (gName 6))
    (tSeq (tAsg (tMeth (He.ga K "Diagrams") "beyond" (sp_Diagrams_beyond K w P) [] E0 (tVar 0) (tCons (tVar 1) (tCons (tVar 6) (tCons (tVar 4) tNil)))) (gName 7))
    (tSeq (tAsg (tLc (iRng1 (tCons (tOp rShrI (tC (.int 32)) (tVar 6)) tNil)) (gName 9) tYes (tOp rOrI (tOp rAndI (tVar 4) (tOp rSubI (tOp rShlI (tC (.int 1)) (tVar 6)) (tC (.int 1)))) (tOp rShlI (tVar 9) (tVar 6))) [9]) (gName 8))
    (tRet (tOp (rEqD K) (tLc (iList K (tVar 8)) (gName 10) tYes (tMeth (He.ga K "Diagrams") "told" (sp_Diagrams_told K w P) [] E0 (tVar 0) (tCons (tVar 7) (tCons (tVar 10) tNil))) [10]) (tLc (iList K (tVar 8)) (gName 10) tYes (tOp rAndI (tOp rShrI (tVar 2) (tVar 10)) (tC (.int 1))) [10])))))))))))


/-- L_full -/
def rd_L_full (K : PySem.W.Frag) (w : World) (P : Program) : TS :=
  (tSeq (tAsg (tMake (He.ga K "Diagrams") (sp_Diagrams_init K w P) [] E0 (tCons (tVar 0) tNil)) (gName 1))
    (tSeq (tFor (iRng1 (tCons (tVar 0) tNil)) (gName 2) (tDrop (tMeth (He.ga K "Diagrams") "bit" (sp_Diagrams_bit K w P) [] E0 (tVar 1) (tCons (tVar 2) tNil))))
    (tSeq (tFor (iRng1 (tCons (tC (.int 2)) tNil)) (gName 3) (tSeq (tAsg (tC .non) (gName 4))
    (tSeq (ZZ.sTry K (He.ga K "YardError") 5 (fun W => (tDrop (ZE.tMethS (He.ga K "Diagrams") "bit" (sp_Diagrams_bit K w P) (WE W) (tVar 1) (tCons (tVar 0) tNil)))) (tAsg (tVar 5) (gName 4)))
    (tIfS (tOr (tNot (tTru K (tCB (ZE.rIsX K) (tCons (tVar 4) (tCons (tC (.ref (He.ga K "TooMany"))) tNil))))) (tOr (tTru K (tCB (ZE.rIsX K) (tCons (tVar 4) (tCons (tC (.ref (He.ga K "BadNet"))) tNil)))) (tTru K (tCB (ZE.rIsX K) (tCons (tVar 4) (tCons (tC (.ref (He.ga K "BadDoors"))) tNil)))))) (tRet (tC (.bl false)))
    tNext))))
    (tRet (tAndT K (tOp rEq (tMeth (He.ga K "Diagrams") "how_many" (sp_Diagrams_how_many K w P) [] E0 (tVar 1) tNil) (tVar 0)) (tOp rEq (tMeth (He.ga K "Diagrams") "told" (sp_Diagrams_told K w P) [] E0 (tVar 1) (tCons (tMeth (He.ga K "Diagrams") "bit" (sp_Diagrams_bit K w P) [] E0 (tVar 1) (tCons (tC (.int 0)) tNil)) (tCons (tC (.int 1)) tNil))) (tC (.int 1))))))))


/-- L_cell -/
def rd_L_cell (K : PySem.W.Frag) : TS :=
  (tSeq (tAsg (tC (.int 17)) (gName 2))
    (tSeq (tIfS (tTest (tOp rGtI (tCB (cLenSeq K) (tCons (tVar 0) tNil)) (tC (.int 0)))) (tAsg (tOp rModI (tOp (rIxL K) (tVar 0) (tOp rModI (tVar 1) (tCB (cLenSeq K) (tCons (tVar 0) tNil)))) (tC (.int 2147483647))) (gName 2))
    tNext)
    (tRet (tOp rDivI (tOp rModI (tOp rMulI (tOp rModI (tOp rMulI (tOp rAddI (tOp rAddI (tVar 2) (tOp rMulI (tOp rMulI (tC (.int 7919)) (tVar 1)) (tVar 1))) (tOp rMulI (tC (.int 31)) (tVar 1))) (tC (.int 48271))) (tC (.int 2147483647))) (tC (.int 69621))) (tC (.int 2147483629))) (tC (.int 64))))))


/-- law -/
def rd_law (K : PySem.W.Frag) (w : World) (P : Program) : TS :=
  (tSeq (tAsg (tLst (tCons (tMake (He.ga K "Diagrams") (sp_Diagrams_init K w P) [(.int 2000)] E0 tNil) (tCons (tMake (He.ga K "Diagrams") (sp_Diagrams_init K w P) [] E0 (tCons (tC (.int 2000)) tNil)) tNil))) (gName 1))
    (tSeq (tAsg (tLst (tCons (tLst (tCons (tTup (tCons (tC (.int 0)) (tCons (tC (.int 0)) tNil))) (tCons (tTup (tCons (tC (.int 1)) (tCons (tOp rSubI (tOp rShlI (tC (.int 1)) (tC (.int 32))) (tC (.int 1))) tNil))) tNil))) (tCons (tLst (tCons (tTup (tCons (tC (.int 0)) (tCons (tC (.int 0)) tNil))) (tCons (tTup (tCons (tC (.int 1)) (tCons (tOp rSubI (tOp rShlI (tC (.int 1)) (tC (.int 32))) (tC (.int 1))) tNil))) tNil))) tNil))) (gName 2))
    (tSeq (tIfS (tTest (tOp rNe (tMeth (He.ga K "Diagrams") "how_many" (sp_Diagrams_how_many K w P) [] E0 (tOp (rIxL K) (tVar 1) (tC (.int 0))) tNil) (tC (.int 0)))) (tRet (tC (.bl false)))
    tNext)
    (tSeq (tFor (iEnum K (tCons (tSl (rSlL K) (tVar 0) tNoPart (tPart (tC (.int 60)))) tNil)) (gTup K 2 (gCons (gName 3) (gCons (gName 4) gNil))) (tSeq (tAsg (tCall sp_L_mixed [] E0 (tCons (tOp rModI (tVar 4) (tC (.int 2147483647))) (tCons (tVar 3) tNil))) (gName 5))
    (tSeq (tAsg (tOp rDivI (tOp rModI (tVar 5) (tC (.int 3))) (tC (.int 2))) (gName 6))
    (tSeq (tAsg (tCall (sp_L_made K w P) [] E0 (tCons (tOp (rIxL K) (tVar 1) (tVar 6)) (tCons (tOp (rIxL K) (tVar 2) (tVar 6)) (tCons (tOp rDivI (tVar 5) (tC (.int 3))) tNil)))) (gName 7))
    (tSeq (tDrop (tBM K "list" rAppend (tOp (rIxL K) (tVar 2) (tVar 6)) (tCons (tVar 7) tNil)))
    (tSeq (tIfS (tNot (tTru K (tCall (sp_L_right K w P) [] E0 (tCons (tOp (rIxL K) (tVar 1) (tVar 6)) (tCons (tOp (rIxT K) (tVar 7) (tC (.int 0))) (tCons (tOp (rIxT K) (tVar 7) (tC (.int 1))) (tCons (tOp rDivI (tVar 5) (tC (.int 7))) tNil))))))) (tRet (tC (.bl false)))
    tNext)
    (tSeq (tAsg (tMeth (He.ga K "Diagrams") "how_many" (sp_Diagrams_how_many K w P) [] E0 (tOp (rIxL K) (tVar 1) (tVar 6)) tNil) (gName 8))
    (tIfS (tOr (tTest (tOp rLtI (tVar 8) (tOp rSubI (ZDN.tLenSet K (tLc (iList K (tOp (rIxL K) (tVar 2) (tVar 6))) (gName 10) tYes (tOp (rIxT K) (tVar 10) (tC (.int 1))) [10])) (tC (.int 2))))) (tTru K (tCB (rIsi K) (tCons (tVar 8) (tCons (tC (.ty "bool")) tNil))))) (tRet (tC (.bl false)))
    tNext))))))))
    (tSeq (tFor (iList K (tVar 2)) (gName 9) (tFor (iList K (tVar 9)) (gName 10) (tIfS (tTest (tOp (rNeD K) (tLc (iList K (tVar 9)) (gName 11) (tTest (tOp rNe (tOp rEq (tOp (rIxT K) (tVar 11) (tC (.int 0))) (tOp (rIxT K) (tVar 10) (tC (.int 0)))) (tOp rEq (tOp (rIxT K) (tVar 11) (tC (.int 1))) (tOp (rIxT K) (tVar 10) (tC (.int 1)))))) (tVar 11) [11]) (tLst tNil))) (tRet (tC (.bl false)))
    tNext)))
    (tRet (tCall sp_L_full [] E0 (tCons (tOp rAddI (tC (.int 1)) (tOp rModI (tCall (sp_L_cell K) [] E0 (tCons (tVar 0) (tCons (tC (.int 2)) tNil))) (tC (.int 9)))) tNil))))))))

theorem vr_L_mixed (vs H Q E) (h : sp_L_mixed vs H Q E) : rd_L_mixed { nx := fun _ H' => Q .non H', rt := Q } (start ["_law_number", "_law_k"] vs) H := by
  obtain ⟨n, k, rfl, hk, q⟩ := h
  unfold rd_L_mixed
  walk_at "zz"
  exact RetV.go q (Ex.refl H)
theorem vr_L_cell {K : PySem.W.Frag} (vs H Q E) (h : sp_L_cell K vs H Q E) : (rd_L_cell K) { nx := fun _ H' => Q .non H', rt := Q } (start ["_law_script", "_law_k", "_law_cell_here"] vs) H := by
  obtain ⟨a, ns, k, rfl, ha, hk, q⟩ := h
  unfold rd_L_cell
  unfold cellN at q
  walk_at "zz"
  refine z_lenL ha ?_
  walk_at "zz"
  rw [List.length_map]
  refine ite_b (fun h => ?_) (fun h => ?_)
  · have hl : (0 : Int) < (ns.length : Int) := of_decide_eq_true h
    rw [if_pos (by omega)] at q
    walk_at "zz"
    refine z_lenL ha ?_
    rw [List.length_map]
    walk_at "zz"
    have h1 := Int.emod_nonneg k (show (ns.length : Int) ≠ 0 by omega)
    have h2 := Int.emod_lt_of_pos k hl
    obtain ⟨j, hj⟩ := Int.eq_ofNat_of_zero_le h1
    have jl : j < ns.length := by omega
    rw [hj, Int.toNat_natCast] at q
    rw [hj]
    refine z_ixL ha (v := .int (ns.getD j 0)) (atI_nat (by rw [List.getElem?_map, List.getD_eq_getElem?_getD, List.getElem?_eq_getElem jl] <;> rfl)) ?_
    walk_at "zz"
    exact RetV.go q (Ex.refl H)
  · have hl : ¬ (0 : Int) < (ns.length : Int) := of_decide_eq_false h
    rw [if_neg (by omega)] at q
    walk_at "zz"
    exact RetV.go q (Ex.refl H)

/-! ### a diagram -/
theorem at_vi {l : List V} {j : Nat} {v : V} (h : l[j]? = some v) : atI l (j : Int) = some v := atI_nat h
theorem at_bits {D : List Nd} {i : Nat} (h : i < D.length + 2) : atI (bitsL D) (i : Int) = some (vi (bitAt D i)) := by
  refine at_vi ?_
  unfold bitsL bitAt
  match i with
  | 0 => rfl
  | 1 => rfl
  | k + 2 =>
    rw [if_neg (by omega), show k + 2 - 2 = k from by omega]
    show (D.map fun n => vi n.b)[k]? = _
    rw [List.getElem?_map, List.getElem?_eq_getElem (show k < D.length by omega)] <;> rfl
theorem at_lows {D : List Nd} {k : Nat} {n : Nd} (e : D[k]? = some n) : atI (lowsL D) ((k + 2 : Nat) : Int) = some (vi n.l) := by
  refine at_vi ?_
  show (D.map fun n => vi n.l)[k]? = _
  rw [List.getElem?_map, e] <;> rfl
theorem at_highs {D : List Nd} {k : Nat} {n : Nd} (e : D[k]? = some n) : atI (highsL D) ((k + 2 : Nat) : Int) = some (vi n.h) := by
  refine at_vi ?_
  show (D.map fun n => vi n.h)[k]? = _
  rw [List.getElem?_map, e] <;> rfl
theorem at_ways {D : List Nd} {i : Nat} (h : i < D.length + 2) : atI (waysL D) (i : Int) = some (optV (wy D i)) := by
  refine at_vi ?_
  unfold waysL
  rw [List.getElem?_map, List.getElem?_range h] <;> rfl
theorem nk_ext {H H' : Hp} (e : Ex H H') {k : NK} {a : Addr} (h : NkAt H k a) : NkAt H' k a := by
  obtain ⟨b, h1, h2⟩ := h
  exact ⟨b, e _ _ h1, e _ _ h2⟩
theorem Dg.ex {H H' : Hp} {d : Addr} {a : Nat → Addr} {most : Nat} {D : List Nd} {L : NL} (g : Dg K w P H d a most D L) (e : Ex H H') : Dg K w P H' d a most D L := by
  obtain ⟨⟨dx, i⟩, h1, h2, h3, h4, h5, h6, ks, ap, ok, b64, f, kn⟩ := g
  exact ⟨⟨dx, e _ _ i⟩, e _ _ h1, e _ _ h2, e _ _ h3, e _ _ h4, e _ _ h5, e _ _ h6, fun p hp => nk_ext e (ks p hp), ap, ok, b64, f, kn⟩
section
variable {H : Hp} {Q : VK} {d : Addr} {a : Nat → Addr} {most : Nat} {D : List Nd} {L : NL}
theorem Dg.f1 (g : Dg K w P H d a most D L) (c : Cls K (DC K)) (n : NoAttr K (DC K) "bits") (q : Q (.ref (a 1)) H) : FldR K "bits" (.ref d) H Q := by
  obtain ⟨dx, i⟩ := g.ins
  exact z_fldR i c n rfl q
theorem Dg.f2 (g : Dg K w P H d a most D L) (c : Cls K (DC K)) (n : NoAttr K (DC K) "lows") (q : Q (.ref (a 2)) H) : FldR K "lows" (.ref d) H Q := by
  obtain ⟨dx, i⟩ := g.ins
  exact z_fldR i c n rfl q
theorem Dg.f3 (g : Dg K w P H d a most D L) (c : Cls K (DC K)) (n : NoAttr K (DC K) "highs") (q : Q (.ref (a 3)) H) : FldR K "highs" (.ref d) H Q := by
  obtain ⟨dx, i⟩ := g.ins
  exact z_fldR i c n rfl q
theorem Dg.f4 (g : Dg K w P H d a most D L) (c : Cls K (DC K)) (n : NoAttr K (DC K) "ways") (q : Q (.ref (a 4)) H) : FldR K "ways" (.ref d) H Q := by
  obtain ⟨dx, i⟩ := g.ins
  exact z_fldR i c n rfl q
theorem Dg.f5 (g : Dg K w P H d a most D L) (c : Cls K (DC K)) (n : NoAttr K (DC K) "places") (q : Q (.ref (a 5)) H) : FldR K "places" (.ref d) H Q := by
  obtain ⟨dx, i⟩ := g.ins
  exact z_fldR i c n rfl q
theorem Dg.f6 (g : Dg K w P H d a most D L) (c : Cls K (DC K)) (n : NoAttr K (DC K) "known") (q : Q (.ref (a 6)) H) : FldR K "known" (.ref d) H Q := by
  obtain ⟨dx, i⟩ := g.ins
  exact z_fldR i c n rfl q
theorem Dg.f0 (g : Dg K w P H d a most D L) (c : Cls K (DC K)) (n : NoAttr K (DC K) "most") (q : Q (vi most) H) : FldR K "most" (.ref d) H Q := by
  obtain ⟨dx, i⟩ := g.ins
  exact z_fldR i c n rfl q
theorem lk_none {m : Str} : ∀ {fs : List (Str × V)}, ((fs.map (·.1)).all fun f => !(m == f)) = true → fs.lookup m = none
  | [], _ => rfl
  | (f, v) :: fs, h => by
    obtain ⟨h1, h2⟩ := Bool.and_eq_true_iff.mp (show (!(m == f) && (fs.map (·.1)).all fun f => !(m == f)) = true from h)
    rw [List.lookup_cons]
    have : (m == f) = false := by cases z : (m == f) with
      | false => rfl
      | true => rw [z] at h1; cases h1
    rw [this]
    exact lk_none h2
def dgN : List Str := ["most", "whole", "bits", "lows", "highs", "ways", "places", "known"]
theorem Dg.m {m : Str} {sp : Sp} {t : TA} {σ : L2.St} (g : Dg K w P H d a most D L) (e : (dgN.all fun f => !(m == f)) = true) (q : t σ H fun vs H2 => sp (.ref d :: (vs ++ [])) H2 Q E0) : MethR (DC K) m sp t σ Q (.ref d) H := by
  obtain ⟨dx, i⟩ := g.ins
  exact z_methR i (lk_none e) q
end
theorem len_bits (D : List Nd) : (bitsL D).length = D.length + 2 := by simp [bitsL]
theorem vr_Diagrams_how_many {K : PySem.W.Frag} (k_Diagrams : Cls K (He.ga K "Diagrams")) (a_Diagrams_bits : NoAttr K (He.ga K "Diagrams") "bits") (vs H Q E) (h : sp_Diagrams_how_many K w P vs H Q E) : (rd_Diagrams_how_many K) { nx := fun _ H' => Q .non H', rt := Q } (start ["self"] vs) H := by
  obtain ⟨d, a, most, D, L, rfl, g, q⟩ := h
  unfold rd_Diagrams_how_many
  walk_at "zz"
  refine g.f1 k_Diagrams a_Diagrams_bits ?_
  walk_at "zz"
  refine z_lenL (sq_of g.h1) ?_
  walk_at "zz"
  rw [len_bits]
  have := RetV.go q (Ex.refl H)
  rw [show ((D.length + 2 : Nat) : Int) - 2 = (D.length : Int) by omega]
  exact this
theorem shl1 {b : Nat} (hb : b < 64) : CShl 1 (b : Int) := by
  have e : Builtin.Int.intBits 1 = 1 := by decide +kernel
  refine ⟨by omega, ?_⟩
  rw [e]
  omega
theorem vi_eq {a b : Nat} : decide (vi a = vi b) = decide (a = b) := by
  by_cases e : a = b
  · rw [e, decide_eq_true rfl, decide_eq_true rfl]
  · rw [decide_eq_false e, decide_eq_false fun z => e (by injection z with z; omega)]
theorem vr_p_way_by (vs H Q E) (h : sp_p_way_by vs H Q E) : rd_p_way_by { nx := fun _ H' => Q .non H', rt := Q } (start ["bit", "low_way", "high_way"] vs) H := by
  obtain ⟨b, lo, hi, rfl, hb, q⟩ := h
  have q := RetV.go q (Ex.refl H)
  unfold rd_p_way_by
  have sh : (1 : Int) * 2 ^ ((b : Int)).toNat = ((2 ^ b : Nat) : Int) := by rw [Int.toNat_natCast]; simp
  have n1 : ∀ n : Nat, ¬ decide (vi n = V.non) = true := fun n z => by cases of_decide_eq_true z
  cases hi with
  | none =>
    rw [show optV none = V.non from rfl]
    walk_at "zz"
    rw [if_pos (decide_eq_true rfl)]
    walk_at "zz"
    exact q
  | some y =>
    rw [show optV (some y) = vi y from rfl]
    cases lo with
    | none =>
      rw [show optV none = V.non from rfl]
      walk_at "zz"
      rw [if_neg (n1 y)]
      walk_at "zz"
      rw [if_pos (decide_eq_true rfl)]
      walk_at "zz"
      refine z_i (shl1 hb) ?_
      walk_at "zz"
      rw [sh]
      exact q
    | some x =>
      rw [show optV (some x) = vi x from rfl]
      walk_at "zz"
      rw [if_neg (n1 y)]
      walk_at "zz"
      rw [if_neg (n1 x)]
      walk_at "zz"
      refine z_i (shl1 hb) ?_
      walk_at "zz"
      rw [sh]
      have e : (if (y : Int) + ((2 ^ b : Nat) : Int) < (x : Int) then (y : Int) + ((2 ^ b : Nat) : Int) else (x : Int)) = ((min x (y + 2 ^ b) : Nat) : Int) := by
        split <;> omega
      rw [e]
      exact q
theorem vr_Diagrams_p_side {K : PySem.W.Frag} (k_Diagrams : Cls K (He.ga K "Diagrams")) (a_Diagrams_bits : NoAttr K (He.ga K "Diagrams") "bits") (a_Diagrams_highs : NoAttr K (He.ga K "Diagrams") "highs") (a_Diagrams_lows : NoAttr K (He.ga K "Diagrams") "lows") (vs H Q E) (h : sp_Diagrams_p_side K w P vs H Q E) : (rd_Diagrams_p_side K) { nx := fun _ H' => Q .non H', rt := Q } (start ["self", "knot", "bit", "worth"] vs) H := by
  obtain ⟨d, a, most, D, L, i, b, c, rfl, g, hi, hb, q⟩ := h
  have q := RetV.go q (Ex.refl H)
  unfold rd_Diagrams_p_side
  walk_at "zz"
  refine g.f1 k_Diagrams a_Diagrams_bits ?_
  walk_at "zz"
  refine z_ixL (sq_of g.h1) (at_bits hi) ?_
  walk_at "zz"
  rw [vi_eq]
  refine ite_b (fun e => ?_) (fun e => ?_)
  · have e : bitAt D i ≠ b := fun z => by rw [z, decide_eq_true rfl] at e; cases e
    have x : side D i b c = i := if_neg e
    rw [x] at q
    walk_at "zz"
    exact q
  · have e : bitAt D i = b := by
      cases z : decide (bitAt D i = b) with
      | true => exact of_decide_eq_true z
      | false => rw [z] at e; cases e
    obtain ⟨k, n, rfl, en⟩ := knot_of hi (by omega)
    have x : side D (k + 2) b c = if c then n.h else n.l := by
      unfold side
      rw [if_pos e, show k + 2 - 2 = k from by omega, en]
    rw [x] at q
    walk_at "zz"
    have y : decide (vi (if c = true then 1 else 0) = V.int 1) = c := by cases c <;> decide
    rw [y]
    cases c with
    | true =>
      rw [if_pos rfl]
      walk_at "zz"
      refine g.f3 k_Diagrams a_Diagrams_highs ?_
      walk_at "zz"
      exact z_ixL (sq_of g.h3) (at_highs en) q
    | false =>
      rw [if_neg Bool.false_ne_true]
      walk_at "zz"
      refine g.f2 k_Diagrams a_Diagrams_lows ?_
      walk_at "zz"
      exact z_ixL (sq_of g.h2) (at_lows en) q
theorem vr_Diagrams_way {K : PySem.W.Frag} (k_Diagrams : Cls K (He.ga K "Diagrams")) (a_Diagrams_ways : NoAttr K (He.ga K "Diagrams") "ways") (vs H Q E) (h : sp_Diagrams_way K w P vs H Q E) : (rd_Diagrams_way K) { nx := fun _ H' => Q .non H', rt := Q } (start ["self", "knot"] vs) H := by
  obtain ⟨d, a, most, D, L, k, rfl, g, hk, q⟩ := h
  unfold rd_Diagrams_way
  walk_at "zz"
  refine g.f4 k_Diagrams a_Diagrams_ways ?_
  walk_at "zz"
  refine z_ixL (sq_of g.h4) (at_ways hk) ?_
  exact RetV.go q (Ex.refl H)

theorem kno_nil : KnOk [] [] := fun p hp => nomatch hp
theorem ok_nil : Ok [] := ⟨fun i n e => (by simp at e), fun i j n e => (by simp at e), fun i n e => (by simp at e)⟩
/-- a maker's heap: fields fs, other things S -/
structure Mk1 (H0 : Hp) (C d dx : Addr) (k : Nat) (G : Hp) (fs : List (Str × V)) (S : List (Addr × HO)) : Prop where
  i : G d = some (.ins C dx fs)
  b : But [d] H0 G
  s : ∀ x ∈ S, G x.1 = some x.2 ∧ x.1 ≠ d ∧ H0 x.1 = none
  nd : (S.map (·.1)).Nodup
  n : fs.length ≤ k
theorem Mk1.new {k : Nat} {H0 : Hp} {C d dx p : Addr} {G : Hp} {fs : List (Str × V)} {S : List (Addr × HO)} {o : HO} (f : Str) (m : Mk1 H0 C d dx k G fs S) (hp : G p = none) (h0 : ∃ u, H0 d = some u) : Mk1 H0 C d dx (k + 1) (upd (upd G p o) d (.ins C dx (putF f (.ref p) fs))) (putF f (.ref p) fs) ((p, o) :: S) := by
  have pd : p ≠ d := fun z => by rw [z, m.i] at hp; cases hp
  have hp0 : H0 p = none := m.b.fresh hp (by simp [pd])
  refine ⟨upd_same, fun b u hb e => ?_, fun x hx => ?_, ?_, Nat.le_trans (length_putF f (.ref p) fs) (Nat.succ_le_succ m.n)⟩
  · have bd : b ≠ d := fun z => hb (by simp [z])
    rw [upd_ne bd, upd_ne fun z => by rw [z, hp0] at e; cases e]
    exact m.b b u hb e
  · rcases List.mem_cons.mp hx with rfl | hx
    · exact ⟨by rw [upd_ne pd]; exact upd_same, pd, hp0⟩
    · obtain ⟨s1, s2, s3⟩ := m.s x hx
      exact ⟨by rw [upd_ne s2, upd_ne fun z => by rw [z, hp] at s1; cases s1]; exact s1, s2, s3⟩
  · refine List.nodup_cons.mpr ⟨fun z => ?_, m.nd⟩
    obtain ⟨x, hx, ex⟩ := List.mem_map.mp z
    have s1 := (m.s x hx).1
    have ex : x.1 = p := ex
    rw [ex, hp] at s1
    cases s1
theorem Mk1.put {k : Nat} {H0 : Hp} {C d dx : Addr} {G : Hp} {fs : List (Str × V)} {S : List (Addr × HO)} (f : Str) (v : V) (m : Mk1 H0 C d dx k G fs S) : Mk1 H0 C d dx (k + 1) (upd G d (.ins C dx (putF f v fs))) (putF f v fs) S := by
  refine ⟨upd_same, fun b u hb e => ?_, fun x hx => ?_, m.nd, Nat.le_trans (length_putF f v fs) (Nat.succ_le_succ m.n)⟩
  · have bd : b ≠ d := fun z => hb (by simp [z])
    rw [upd_ne bd]
    exact m.b b u hb e
  · obtain ⟨s1, s2, s3⟩ := m.s x hx
    exact ⟨by rw [upd_ne s2]; exact s1, s2, s3⟩
theorem vr_Diagrams_init {K : PySem.W.Frag} (k_Diagrams : Cls K (He.ga K "Diagrams")) (a_Diagrams_bits : NoAttr K (He.ga K "Diagrams") "bits") (a_Diagrams_highs : NoAttr K (He.ga K "Diagrams") "highs") (a_Diagrams_known : NoAttr K (He.ga K "Diagrams") "known") (a_Diagrams_lows : NoAttr K (He.ga K "Diagrams") "lows") (a_Diagrams_most : NoAttr K (He.ga K "Diagrams") "most") (a_Diagrams_places : NoAttr K (He.ga K "Diagrams") "places") (a_Diagrams_ways : NoAttr K (He.ga K "Diagrams") "ways") (a_Diagrams_whole : NoAttr K (He.ga K "Diagrams") "whole") (vs H Q E) (h : sp_Diagrams_init K w P vs H Q E) : (rd_Diagrams_init K w P) { nx := fun _ H' => Q .non H', rt := Q } (start ["self", "most"] vs) H := by
  obtain ⟨d, dx, most, rfl, hd, hm, q⟩ := h
  unfold rd_Diagrams_init
  have m0 : Mk1 H (DC K) d dx 0 H [] [] := ⟨hd, But.refl, (fun x hx => nomatch hx), List.nodup_nil, Nat.le_refl _⟩
  have nd : ∀ {G : Hp} {p : Addr} {o : HO} {u : HO}, G d = some u → G p = none → (upd G p o) d = some u := fun i n => by rw [upd_ne fun z => by rw [z, n] at i; cases i]; exact i
  walk_at "zz"
  have sm : ∀ {k : Nat} {fs : List (Str × V)}, fs.length ≤ k → k < 1000 → fs.length < 1000 := fun a b => Nat.lt_of_le_of_lt a b
  refine z_fldW m0.i k_Diagrams a_Diagrams_most (sm m0.n (by decide)) ?_
  have m1 := m0.put "most" (vi most)
  generalize upd H d _ = H1 at m1 ⊢
  walk_at "zz"
  refine z_fldW m1.i k_Diagrams a_Diagrams_whole (sm m1.n (by decide)) ?_
  have m2 := m1.put "whole" (vi 1)
  generalize upd H1 d _ = H2 at m2 ⊢
  walk_at "zz"
  refine ⟨szl (by decide), fun p1 n1 => ?_⟩
  walk_at "zz"
  refine z_fldW (nd m2.i n1) k_Diagrams a_Diagrams_bits (sm m2.n (by decide)) ?_
  have m3 := m2.new "bits" n1 ⟨_, hd⟩ (o := .lst [.int 1000000, .int 1000000])
  generalize upd (upd H2 p1 (.lst [.int 1000000, .int 1000000])) d _ = H3 at m3 ⊢
  walk_at "zz"
  refine ⟨szl (by decide), fun p2 n2 => ?_⟩
  walk_at "zz"
  refine z_fldW (nd m3.i n2) k_Diagrams a_Diagrams_lows (sm m3.n (by decide)) ?_
  have m4 := m3.new "lows" n2 ⟨_, hd⟩ (o := .lst [.int 0, .int 1])
  generalize upd (upd H3 p2 (.lst [.int 0, .int 1])) d _ = H4 at m4 ⊢
  walk_at "zz"
  refine ⟨szl (by decide), fun p3 n3 => ?_⟩
  walk_at "zz"
  refine z_fldW (nd m4.i n3) k_Diagrams a_Diagrams_highs (sm m4.n (by decide)) ?_
  have m5 := m4.new "highs" n3 ⟨_, hd⟩ (o := .lst [.int 0, .int 1])
  generalize upd (upd H4 p3 (.lst [.int 0, .int 1])) d _ = H5 at m5 ⊢
  walk_at "zz"
  refine ⟨szl (by decide), fun p4 n4 => ?_⟩
  walk_at "zz"
  refine z_fldW (nd m5.i n4) k_Diagrams a_Diagrams_ways (sm m5.n (by decide)) ?_
  have m6 := m5.new "ways" n4 ⟨_, hd⟩ (o := .lst [.non, .int 0])
  generalize upd (upd H5 p4 (.lst [.non, .int 0])) d _ = H6 at m6 ⊢
  walk_at "zz"
  refine fun p5 n5 => ?_
  walk_at "zz"
  refine z_fldW (nd m6.i n5) k_Diagrams a_Diagrams_places (sm m6.n (by decide)) ?_
  have m7 := m6.new "places" n5 ⟨_, hd⟩ (o := .dT [])
  generalize upd (upd H6 p5 (.dT [])) d _ = H7 at m7 ⊢
  walk_at "zz"
  refine fun p6 n6 => ?_
  walk_at "zz"
  refine z_fldW (nd m7.i n6) k_Diagrams a_Diagrams_known (sm m7.n (by decide)) ?_
  have m8 := m7.new "known" n6 ⟨_, hd⟩ (o := NdO P w p6 [])
  generalize upd (upd H7 p6 (NdO P w p6 [])) d _ = H8 at m8 ⊢
  walk_at "zz"
  have m8i := m8.i
  have s := m8.s
  have t6 := s _ (.head _)
  have t5 := s _ (.tail _ (.head _))
  have t4 := s _ (.tail _ (.tail _ (.head _)))
  have t3 := s _ (.tail _ (.tail _ (.tail _ (.head _))))
  have t2 := s _ (.tail _ (.tail _ (.tail _ (.tail _ (.head _)))))
  have t1 := s _ (.tail _ (.tail _ (.tail _ (.tail _ (.tail _ (.head _))))))
  let a : Nat → Addr := fun i => if i = 1 then p1 else if i = 2 then p2 else if i = 3 then p3 else if i = 4 then p4 else if i = 5 then p5 else p6
  refine q H8 a ⟨⟨dx, m8i.trans rfl⟩, t1.1, t2.1, t3.1, t4.1, t5.1, t6.1, (fun p hp => nomatch hp), ?_, ok_nil, (fun n hn => nomatch hn), ⟨Nat.zero_le _, hm, Nat.zero_le _⟩, kno_nil⟩ (fun b hb => ?_) m8.b
  · have := List.pairwise_reverse.mpr (m8.nd.imp fun h => Ne.symm h)
    exact this
  · have hb : b ∈ [p1, p2, p3, p4, p5, p6] := hb
    simp only [List.mem_cons, List.not_mem_nil, or_false] at hb
    rcases hb with e | e | e | e | e | e <;> rw [e]
    · exact t1.2.2
    · exact t2.2.2
    · exact t3.2.2
    · exact t4.2.2
    · exact t5.2.2
    · exact t6.2.2

theorem key_inj {m n : Nd} (h : keyP m = keyP n) : m = n := by
  obtain ⟨a, b, c⟩ := m
  obtain ⟨x, y, z⟩ := n
  unfold keyP at h
  injection h with h1 h
  injection h with h2 h
  injection h with h3 h
  injection h1 with h1
  injection h2 with h2
  injection h3 with h3
  rw [show a = x from Int.ofNat.inj h1, show b = y from Int.ofNat.inj h2, show c = z from Int.ofNat.inj h3]
theorem plc_val : ∀ (D : List Nd) (i : Nat) (n : Nd), valV (plcF i D) (keyP n) = if n ∈ D then some (vi (i + D.idxOf n)) else none
  | [], i, n => by
    rw [if_neg (fun z => nomatch z)]
    rfl
  | m :: D, i, n => by
    have ih := plc_val D (i + 1) n
    unfold valV plcF
    rw [List.find?_cons]
    by_cases e : m = n
    · rw [e, if_pos (List.mem_cons_self ..), decide_eq_true rfl, List.idxOf_cons_self]
      rfl
    · rw [decide_eq_false fun z => e (key_inj z)]
      refine Eq.trans ih ?_
      have e2 : (m :: D).idxOf n = D.idxOf n + 1 := by
        rw [List.idxOf_cons, beq_eq_false_iff_ne.mpr e]
        rfl
      by_cases h : n ∈ D
      · rw [if_pos h, if_pos (List.mem_cons_of_mem _ h), e2, show i + 1 + D.idxOf n = i + (D.idxOf n + 1) by omega]
      · rw [if_neg h, if_neg fun z => (List.mem_cons.mp z).elim (fun z => e z.symm) h]
theorem plc_app : ∀ (D : List Nd) (i : Nat) (n : Nd), plcF i (D ++ [n]) = plcF i D ++ [(keyP n, vi (i + D.length))]
  | [], i, n => rfl
  | m :: D, i, n => by
    show (keyP m, vi i) :: plcF (i + 1) (D ++ [n]) = (keyP m, vi i) :: (plcF (i + 1) D ++ _)
    rw [plc_app D (i + 1) n, show i + 1 + D.length = i + (m :: D).length by rw [List.length_cons]; omega]
theorem plc_len : ∀ (D : List Nd) (i : Nat), (plcF i D).length = D.length
  | [], _ => rfl
  | m :: D, i => congrArg Nat.succ (plc_len D (i + 1))
theorem plc_put {D : List Nd} {n : Nd} (h : n ∉ D) : putK (plcL D) (keyP n) (vi (D.length + 2)) = plcL (D ++ [n]) := by
  have e : valV (plcL D) (keyP n) = none := by
    unfold plcL
    rw [plc_val, if_neg h]
  unfold putK
  unfold valV at e
  have e2 := Option.map_eq_none_iff.mp e
  have e3 : ((plcL D).any fun kv => decide (kv.1 = keyP n)) = false := by
    rw [List.any_eq_false]
    intro x hx
    have := List.find?_eq_none.mp e2 x hx
    simpa using this
  rw [e3]
  show plcL D ++ _ = _
  unfold plcL
  rw [plc_app, show 2 + D.length = D.length + 2 by omega]
abbrev dg5 (a : Nat → Addr) : List Addr := [a 1, a 2, a 3, a 4, a 5]
theorem ways_app {D : List Nd} {n : Nd} (ok : Ok D) (ok2 : Ok (D ++ [n])) : waysL (D ++ [n]) = waysL D ++ [optV (wayBy n.b (wy D n.l) (wy D n.h))] := by
  have M : Mo D (D ++ [n]) := ⟨ok2, _, rfl⟩
  unfold waysL
  rw [show (D ++ [n]).length + 2 = (D.length + 2) + 1 by simp, List.range_succ, List.map_append]
  have g : (D ++ [n])[D.length]? = some n := by simp
  obtain ⟨a1, a2, _⟩ := ok2.at_ _ n g
  congr 1
  · exact List.map_congr_left fun i hi => by rw [wy_more ok M i (List.mem_range.mp hi)]
  · show [optV (wy (D ++ [n]) (D.length + 2))] = _
    rw [wy_knot ok2 g, wy_more ok M n.l (by omega), wy_more ok M n.h (by omega)]
section
variable {H : Hp} {Q : VK} {d : Addr} {a : Nat → Addr} {most : Nat} {D : List Nd} {L : NL}
theorem Dg.ne (g : Dg K w P H d a most D L) {i j : Nat} (hi : 1 ≤ i ∧ i ≤ 6) (hj : 1 ≤ j ∧ j ≤ 6) (n : i ≠ j) : a i ≠ a j := by
  have h := g.apart
  have l : ∀ k, 1 ≤ k ∧ k ≤ 6 → (dgL a)[k - 1]? = some (a k) := fun k hk => by
    have : k = 1 ∨ k = 2 ∨ k = 3 ∨ k = 4 ∨ k = 5 ∨ k = 6 := by omega
    rcases this with rfl | rfl | rfl | rfl | rfl | rfl <;> rfl
  intro e
  have h1 := l i hi
  have h2 := l j hj
  rw [← e] at h2
  have := (List.getElem?_inj (by show i - 1 < 6; omega) h).mp (h1.trans h2.symm)
  omega
theorem Dg.dne (g : Dg K w P H d a most D L) : d ∉ dgL a := fun z => by
  obtain ⟨dx, i⟩ := g.ins
  have hs := g.h1
  simp only [List.mem_cons, List.not_mem_nil, or_false] at z
  rcases z with e | e | e | e | e | e
  · rw [e, g.h1] at i; cases i
  · rw [e, g.h2] at i; cases i
  · rw [e, g.h3] at i; cases i
  · rw [e, g.h4] at i; cases i
  · rw [e, g.h5] at i; cases i
  · rw [e, g.h6] at i; cases i
theorem Dg.tne (g : Dg K w P H d a most D L) {p : Addr} {xs : List V} (h : H p = some (.tup xs)) : p ∉ dgL a := fun z => by
  simp only [List.mem_cons, List.not_mem_nil, or_false] at z
  rcases z with e | e | e | e | e | e
  · rw [e, g.h1] at h; cases h
  · rw [e, g.h2] at h; cases h
  · rw [e, g.h3] at h; cases h
  · rw [e, g.h4] at h; cases h
  · rw [e, g.h5] at h; cases h
  · rw [e, g.h6] at h; cases h
/-- while a knot is put in -/
structure Tr (K : PySem.W.Frag) (H0 : Hp) (d : Addr) (a : Nat → Addr) (most : Nat) (G : Hp) (o : Nat → HO) : Prop where
  ins : ∃ dx, G d = some (.ins (DC K) dx [("most", vi most), ("whole", vi 1), ("bits", .ref (a 1)), ("lows", .ref (a 2)), ("highs", .ref (a 3)), ("ways", .ref (a 4)), ("places", .ref (a 5)), ("known", .ref (a 6))])
  b : But (dg5 a) H0 G
  o : ∀ i, 1 ≤ i → i ≤ 5 → G (a i) = some (o i)
def oD (D : List Nd) (i : Nat) : HO := if i = 1 then .lst (bitsL D) else if i = 2 then .lst (lowsL D) else if i = 3 then .lst (highsL D) else if i = 4 then .lst (waysL D) else .dT (plcL D)
theorem Dg.tr (g : Dg K w P H d a most D L) : Tr K H d a most H (oD D) := ⟨g.ins, But.refl, fun i h1 h2 => by
  have : i = 1 ∨ i = 2 ∨ i = 3 ∨ i = 4 ∨ i = 5 := by omega
  rcases this with rfl | rfl | rfl | rfl | rfl
  · exact g.h1
  · exact g.h2
  · exact g.h3
  · exact g.h4
  · exact g.h5⟩
theorem Tr.ex {G G' : Hp} {o : Nat → HO} (t : Tr K H d a most G o) (e : Ex G G') : Tr K H d a most G' o := by
  obtain ⟨⟨dx, i⟩, b, f⟩ := t
  exact ⟨⟨dx, e _ _ i⟩, b.trans (But.ex e), fun i h1 h2 => e _ _ (f i h1 h2)⟩
theorem Tr.put {G : Hp} {o : Nat → HO} (g : Dg K w P H d a most D L) (t : Tr K H d a most G o) {i : Nat} (h1 : 1 ≤ i) (h2 : i ≤ 5) (v : HO) : Tr K H d a most (upd G (a i) v) (fun j => if j = i then v else o j) := by
  have mem : a i ∈ dgL a := by
    have : i = 1 ∨ i = 2 ∨ i = 3 ∨ i = 4 ∨ i = 5 := by omega
    rcases this with rfl | rfl | rfl | rfl | rfl <;> simp
  have mem5 : a i ∈ dg5 a := by
    have : i = 1 ∨ i = 2 ∨ i = 3 ∨ i = 4 ∨ i = 5 := by omega
    rcases this with rfl | rfl | rfl | rfl | rfl <;> simp
  obtain ⟨⟨dx, ii⟩, b, f⟩ := t
  refine ⟨⟨dx, by rw [upd_ne fun z => g.dne (by rw [z]; exact mem)]; exact ii⟩, b.put' mem5, fun j j1 j2 => ?_⟩
  by_cases e : j = i
  · rw [e, upd_same, if_pos rfl]
  · rw [upd_ne (g.ne ⟨j1, by omega⟩ ⟨h1, by omega⟩ e), if_neg e]
    exact f j j1 j2
/-- a diagram with other knots -/
theorem Dg.grow {H' : Hp} {D' : List Nd} {o : Nat → HO} (g : Dg K w P H d a most D L) (t : Tr K H d a most H' o) (e : ∀ i, 1 ≤ i → i ≤ 5 → o i = oD D' i) (ok : Ok D') (b64 : ∀ n ∈ D', n.b < 64) (f : D'.length ≤ most) (kn : KnOk D' L) : Dg K w P H' d a most D' L where
  ins := t.ins
  h1 := by rw [t.o 1 (by decide) (by decide), e 1 (by decide) (by decide)]; rfl
  h2 := by rw [t.o 2 (by decide) (by decide), e 2 (by decide) (by decide)]; rfl
  h3 := by rw [t.o 3 (by decide) (by decide), e 3 (by decide) (by decide)]; rfl
  h4 := by rw [t.o 4 (by decide) (by decide), e 4 (by decide) (by decide)]; rfl
  h5 := by rw [t.o 5 (by decide) (by decide), e 5 (by decide) (by decide)]; rfl
  h6 := t.b _ _ (fun z => by
    simp only [List.mem_cons, List.not_mem_nil, or_false] at z
    rcases z with z | z | z | z | z
    · exact g.ne (i := 6) (j := 1) ⟨by decide, by decide⟩ ⟨by decide, by decide⟩ (by decide) z
    · exact g.ne (i := 6) (j := 2) ⟨by decide, by decide⟩ ⟨by decide, by decide⟩ (by decide) z
    · exact g.ne (i := 6) (j := 3) ⟨by decide, by decide⟩ ⟨by decide, by decide⟩ (by decide) z
    · exact g.ne (i := 6) (j := 4) ⟨by decide, by decide⟩ ⟨by decide, by decide⟩ (by decide) z
    · exact g.ne (i := 6) (j := 5) ⟨by decide, by decide⟩ ⟨by decide, by decide⟩ (by decide) z) g.h6
  keys := fun p hp => by
    obtain ⟨b, k1, k2⟩ := g.keys p hp
    have s : ∀ x ∈ dg5 a, x ∈ dgL a := fun x hx => by
      simp only [List.mem_cons, List.not_mem_nil, or_false] at hx ⊢
      rcases hx with h | h | h | h | h <;> simp [h]
    exact ⟨b, t.b _ _ (fun z => g.tne k1 (s _ z)) k1, t.b _ _ (fun z => g.tne k2 (s _ z)) k2⟩
  apart := g.apart
  ok := ok
  b64 := b64
  fits := ⟨f, g.fits.2⟩
  known := kn
end
theorem kno_ext {D D' : List Nd} {L : NL} (ok : Ok D) (M : Mo D D') (h : KnOk D L) : KnOk D' L := fun p hp => by
  obtain ⟨ks, r, e1, e2, m⟩ := h p hp
  exact ⟨ks, r, e1, e2, made_ext ok M m⟩

theorem z_fmt {te : TE} {σ : L2.St} {H : Hp} {Q : VK} (q : te σ H fun x H1 => (∃ y : Str, x = .str y ∧ y.length ≤ sizeLine ∧ Q (.str y) H1) ∨ ∃ i : Int, x = .int i ∧ i.natAbs.log2 < 1920 ∧ Q (.str (toString i)) H1) : tFmt te σ H Q := q
theorem str_app (a b : Str) : (a ++ b).length = a.length + b.length := Array.size_append
theorem ts_len (k : Nat) (h : k ≤ 5000) : (Str.ofString (toString ((k : Nat) : Int))).length ≤ 100 := by
  have e := int_text_length_le10 (a := (k : Int)) (k := 4) (by decide) (by rw [Int.natAbs_natCast]; omega)
  rw [PySem.ofString_length]
  omega
theorem vr_Diagrams_p_knot {K : PySem.W.Frag} (k_Diagrams : Cls K (He.ga K "Diagrams")) (a_Diagrams_bits : NoAttr K (He.ga K "Diagrams") "bits") (a_Diagrams_highs : NoAttr K (He.ga K "Diagrams") "highs") (a_Diagrams_lows : NoAttr K (He.ga K "Diagrams") "lows") (a_Diagrams_most : NoAttr K (He.ga K "Diagrams") "most") (a_Diagrams_places : NoAttr K (He.ga K "Diagrams") "places") (a_Diagrams_ways : NoAttr K (He.ga K "Diagrams") "ways") (vs H Q E) (h : sp_Diagrams_p_knot K w P vs H Q E) : (rd_Diagrams_p_knot K w P E) { nx := fun _ H' => Q .non H', rt := Q } (start ["self", "bit", "low", "high"] vs) H := by
  obtain ⟨d, a, most, D, L, n, rfl, g, f, hb, hq⟩ := h
  obtain ⟨M, len1, kr1, kr2, kr3⟩ := kn_ok g.ok f
  unfold rd_Diagrams_p_knot
  walk_at "zz"
  rw [vi_eq]
  refine ite_b (fun e => ?_) (fun e => ?_)
  · have e := of_decide_eq_true e
    rcases hq with ⟨_, q⟩ | ⟨ne, _⟩
    · have e1 : kn D n = D := if_pos (.inl e)
      have e2 : kr D n = n.l := if_pos e
      rw [e1, e2] at q
      walk_at "zz"
      exact q H g But.refl
    · exact absurd e ne
  have ne : n.l ≠ n.h := of_decide_eq_false e
  have e2 : kr D n = D.idxOf n + 2 := if_neg ne
  rw [e2] at hq
  walk_at "zz"
  refine ⟨szl (by show 3 ≤ 1000; decide), fun p0 n0 => ?_⟩
  have x0 := Ex.new (o := .tup [vi n.b, vi n.l, vi n.h]) n0
  have g0 := g.ex x0
  have s0 : (upd H p0 (.tup [vi n.b, vi n.l, vi n.h])) p0 = some (.tup ((keyP n).map kV)) := upd_same
  generalize upd H p0 (.tup [vi n.b, vi n.l, vi n.h]) = H0 at x0 g0 s0 ⊢
  walk_at "zz"
  refine g0.f5 k_Diagrams a_Diagrams_places ?_
  refine ⟨a 5, valV (plcL D) (keyP n), rfl, DGet.t g0.h5 s0, ?_⟩
  have pv : valV (plcL D) (keyP n) = if n ∈ D then some (vi (D.idxOf n + 2)) else none := by
    unfold plcL
    rw [plc_val, Nat.add_comm]
  rw [pv]
  have fin : ∀ H1, Dg K w P H1 d a most (kn D n) L → But (dgL a) H H1 → n ∈ kn D n → (kn D n).idxOf n = D.idxOf n → (∀ H2, Dg K w P H2 d a most (kn D n) L → But (dgL a) H H2 → Q (vi (D.idxOf n + 2)) H2) → (tRet (tDGet (tFld K (tVar 0) "places") (tTup (tCons (tVar 1) (tCons (tVar 2) (tCons (tVar 3) tNil)))))) { nx := fun _ H' => Q .non H', rt := Q } (start ["self", "bit", "low", "high"] [.ref d, vi n.b, vi n.l, vi n.h]) H1 := fun H1 g1 b1 m1 i1 q => by
    walk_at "zz"
    refine g1.f5 k_Diagrams a_Diagrams_places ?_
    walk_at "zz"
    refine ⟨szl (by show 3 ≤ 1000; decide), fun p2 n2 => ?_⟩
    have x2 := Ex.new (o := .tup [vi n.b, vi n.l, vi n.h]) n2
    have g2 := g1.ex x2
    have s2 : (upd H1 p2 (.tup [vi n.b, vi n.l, vi n.h])) p2 = some (.tup ((keyP n).map kV)) := upd_same
    have pv : valV (plcL (kn D n)) (keyP n) = some (vi (D.idxOf n + 2)) := by
      unfold plcL
      rw [plc_val, if_pos m1, i1, Nat.add_comm]
    refine ⟨a 5, _, rfl, ?_, q _ g2 (b1.trans (But.ex x2))⟩
    rw [← pv]
    exact DGet.t g2.h5 s2
  by_cases mem : n ∈ D
  · rw [if_pos mem]
    have e1 : kn D n = D := if_pos (.inr mem)
    rcases hq with ⟨_, q⟩ | ⟨_, nm, _⟩
    · refine ⟨_, rfl, ite_f (z_next ?_)⟩
      exact fin H0 (by rw [e1]; exact g0) (But.ex x0) (by rw [e1]; exact mem) (by rw [e1]) q
    · exact absurd mem nm
  · rw [if_neg mem]
    have e1 : kn D n = D ++ [n] := if_neg fun z => z.elim ne mem
    refine ⟨_, rfl, ite_t ?_⟩
    walk_at "zz"
    refine g0.m (by decide +kernel) ?_
    walk_at "zz"
    refine ⟨d, a, most, D, L, rfl, g0, fun H1 x1 => ?_⟩
    have g1 := g0.ex x1
    have b1 : Ex H H1 := x0.trans x1
    clear x0 x1 g0 s0 n0
    walk_at "zz"
    refine g1.f0 k_Diagrams a_Diagrams_most ?_
    walk_at "zz"
    refine ite_b (fun e => ?_) (fun e => ?_)
    · have e := of_decide_eq_true e
      rcases hq with ⟨le, _⟩ | ⟨_, _, _, q⟩
      · rw [e1] at le
        simp at le
        omega
      · walk_at "zz"
        refine ⟨_, rfl, ?_⟩
        have ts := ts_len most g.fits.2.1
        have l1 : (Str.empty ++ Str.ofString "more than ").length = 10 := by decide +kernel
        have l2 : (Str.ofString " knots").length = 6 := by decide +kernel
        have lg : ((most : Int).natAbs).log2 < 1920 := by
          rw [Int.natAbs_natCast]
          have h5 := g.fits.2.1
          by_cases z : most = 0
          · rw [z]; decide
          · exact (Nat.log2_lt z).mpr (Nat.lt_of_le_of_lt h5 (Nat.lt_of_lt_of_le (show 5000 < 2 ^ 13 by decide) (Nat.pow_le_pow_right (by decide) (by decide))))
        refine ⟨szl (by rw [l1]; decide), ?_⟩
        refine z_fmt ?_
        walk_at "zz"
        refine g1.f0 k_Diagrams a_Diagrams_most (.inr ⟨_, rfl, lg, _, rfl, szl (by rw [str_app, l1]; omega), ?_⟩)
        refine ⟨_, rfl, szl (by rw [str_app, str_app, l1, l2]; omega), ?_⟩
        walk_at "zz"
        exact ⟨szl (by show 1 ≤ 1000; decide), q _ b1⟩
    · have e := of_decide_eq_false e
      rcases hq with ⟨le, q⟩ | ⟨_, _, fm, _⟩
      · walk_at "zz"
        refine g1.f1 k_Diagrams a_Diagrams_bits ?_
        walk_at "zz"
        refine z_lenL (sq_of g1.h1) ?_
        walk_at "zz"
        refine g1.f5 k_Diagrams a_Diagrams_places ?_
        walk_at "zz"
        refine ⟨szl (by show 3 ≤ 1000; decide), fun p3 n3 => ?_⟩
        have x3 := Ex.new (o := .tup [vi n.b, vi n.l, vi n.h]) n3
        have g3 := g1.ex x3
        have s3 : (upd H1 p3 (.tup [vi n.b, vi n.l, vi n.h])) p3 = some (.tup ((keyP n).map kV)) := upd_same
        generalize upd H1 p3 (.tup [vi n.b, vi n.l, vi n.h]) = H3 at x3 g3 s3 ⊢
        have b3 := b1.trans x3
        clear b1 x3 g1
        have ll : ∀ xs : List V, xs.length = D.length + 2 → xs.length < sizeLine := fun xs e => by
          have := g.fits
          rw [e, sizeLine_eq]
          omega
        have sz : (plcL D).length < sizeLine := by
          unfold plcL
          have := g.fits
          rw [plc_len, sizeLine_eq]
          omega
        refine ⟨a 5, _, rfl, DPut.t g3.h5 s3 sz, ?_⟩
        rw [len_bits, plc_put mem]
        have t5 := g3.tr.put g3 (i := 5) (by decide) (by decide) (.dT (plcL (D ++ [n])))
        generalize upd H3 (a 5) (.dT (plcL (D ++ [n]))) = H5 at t5 ⊢
        walk_at "zz"
        obtain ⟨dx1, i1⟩ := t5.ins
        have o1 : H5 (a 1) = some (.lst (bitsL D)) := t5.o 1 (by decide) (by decide)
        refine z_fldR i1 k_Diagrams a_Diagrams_bits rfl (z_tyl (sq_of o1) ?_)
        walk_at "zz"
        refine z_rapp o1 (ll _ (by simp [bitsL])) ?_
        have t6 := t5.put g3 (i := 1) (by decide) (by decide) (.lst (bitsL D ++ [vi n.b]))
        generalize upd H5 (a 1) (.lst (bitsL D ++ [vi n.b])) = H6 at t6 ⊢
        walk_at "zz"
        obtain ⟨dx2, i2⟩ := t6.ins
        have o2 : H6 (a 2) = some (.lst (lowsL D)) := t6.o 2 (by decide) (by decide)
        refine z_fldR i2 k_Diagrams a_Diagrams_lows rfl (z_tyl (sq_of o2) ?_)
        walk_at "zz"
        refine z_rapp o2 (ll _ (by simp [lowsL])) ?_
        have t7 := t6.put g3 (i := 2) (by decide) (by decide) (.lst (lowsL D ++ [vi n.l]))
        generalize upd H6 (a 2) (.lst (lowsL D ++ [vi n.l])) = H7 at t7 ⊢
        walk_at "zz"
        obtain ⟨dx3, i3⟩ := t7.ins
        have o3 : H7 (a 3) = some (.lst (highsL D)) := t7.o 3 (by decide) (by decide)
        refine z_fldR i3 k_Diagrams a_Diagrams_highs rfl (z_tyl (sq_of o3) ?_)
        walk_at "zz"
        refine z_rapp o3 (ll _ (by simp [highsL])) ?_
        have t8 := t7.put g3 (i := 3) (by decide) (by decide) (.lst (highsL D ++ [vi n.h]))
        generalize upd H7 (a 3) (.lst (highsL D ++ [vi n.h])) = H8 at t8 ⊢
        walk_at "zz"
        obtain ⟨dx4, i4⟩ := t8.ins
        have o4 : H8 (a 4) = some (.lst (waysL D)) := t8.o 4 (by decide) (by decide)
        refine z_fldR i4 k_Diagrams a_Diagrams_ways rfl (z_tyl (sq_of o4) ?_)
        walk_at "zz"
        refine z_fldR i4 k_Diagrams a_Diagrams_ways rfl ?_
        walk_at "zz"
        refine z_ixL (sq_of o4) (at_ways f.l) ?_
        walk_at "zz"
        refine z_fldR i4 k_Diagrams a_Diagrams_ways rfl ?_
        walk_at "zz"
        refine z_ixL (sq_of o4) (at_ways f.h) ?_
        walk_at "zz"
        refine ⟨n.b, wy D n.l, wy D n.h, rfl, hb, fun H9 x9 => ?_⟩
        have t9 := t8.ex x9
        have o9 := x9 _ _ o4
        walk_at "zz"
        refine z_rapp o9 (ll _ (by simp [waysL])) ?_
        have ok2 : Ok (D ++ [n]) := e1 ▸ M.1
        have t10 := t9.put g3 (i := 4) (by decide) (by decide) (.lst (waysL D ++ [optV (wayBy n.b (wy D n.l) (wy D n.h))]))
        generalize upd H9 (a 4) (.lst (waysL D ++ [optV (wayBy n.b (wy D n.l) (wy D n.h))])) = H10 at t10 ⊢
        have g10 : Dg K w P H10 d a most (D ++ [n]) L := by
          refine g3.grow t10 (fun i h1 h2 => ?_) ok2 (fun m hm => ?_) (by rw [← e1]; exact le) (kno_ext g.ok ⟨ok2, _, rfl⟩ g.known)
          · have : i = 1 ∨ i = 2 ∨ i = 3 ∨ i = 4 ∨ i = 5 := by omega
            rcases this with rfl | rfl | rfl | rfl | rfl
            · show HO.lst (bitsL D ++ [vi n.b]) = HO.lst (bitsL (D ++ [n]))
              simp [bitsL]
            · show HO.lst (lowsL D ++ [vi n.l]) = HO.lst (lowsL (D ++ [n]))
              simp [lowsL]
            · show HO.lst (highsL D ++ [vi n.h]) = HO.lst (highsL (D ++ [n]))
              simp [highsL]
            · show HO.lst (waysL D ++ _) = HO.lst (waysL (D ++ [n]))
              rw [ways_app g.ok ok2]
            · rfl
          · rcases List.mem_append.mp hm with hm | hm
            · exact g.b64 m hm
            · rw [List.mem_singleton.mp hm]
              exact hb
        have s5 : ∀ x ∈ dg5 a, x ∈ dgL a := fun x hx => by
          simp only [List.mem_cons, List.not_mem_nil, or_false] at hx ⊢
          rcases hx with h | h | h | h | h <;> simp [h]
        refine fin H10 (e1 ▸ g10) ((But.ex b3).trans (t10.b.mono s5)) (by rw [e1]; simp) ?_ q
        rw [e1, List.idxOf_append, if_neg mem, List.idxOf_eq_length mem]
        simp
      · omega

theorem fit01 (D : List Nd) {b : Nat} (h : b < NO) : Fit D ⟨b, 0, 1⟩ := ⟨by show 0 < _; omega, by show 1 < _; omega, by show b < _; rw [bit0]; exact h, by show b < bitAt D 1; rw [no_end (by decide)]; exact h, h⟩
theorem z_methE {C : Addr} {m : Str} {sp : Sp} {E : XK} {ta : TE} {t : TA} {σ : L2.St} {H : Hp} {Q : VK} (q : ta σ H fun x H1 => ∃ (a dx : Addr) (fs : List (Str × V)), x = .ref a ∧ H1 a = some (.ins C dx fs) ∧ fs.lookup m = none ∧ t σ H1 fun vs H2 => sp (x :: (vs ++ [])) H2 Q E) : tMeth C m sp [] E ta t σ H Q := by
  refine (?_ : ta σ H _)
  exact q
theorem vi_eq0 {a : Nat} : decide (vi a = V.int 0) = decide (a = 0) := vi_eq (b := 0)
theorem vi_eq1 {a : Nat} : decide (vi a = V.int 1) = decide (a = 1) := vi_eq (b := 1)
theorem vr_Diagrams_bit {K : PySem.W.Frag} (vs H Q E) (h : sp_Diagrams_bit K w P vs H Q E) : (rd_Diagrams_bit K w P E) { nx := fun _ H' => Q .non H', rt := Q } (start ["self", "place"] vs) H := by
  obtain ⟨d, a, most, D, L, b, rfl, g, hb, hq⟩ := h
  unfold rd_Diagrams_bit
  obtain ⟨dx, i⟩ := g.ins
  have f := fit01 D (show b < NO by show b < 1000000; omega)
  refine z_ret (z_methE ?_)
  walk_at "zz"
  refine ⟨d, dx, _, rfl, i, lk_none (show (dgN.all _) = true by decide +kernel), ?_⟩
  walk_at "zz"
  exact ⟨d, a, most, D, L, ⟨b, 0, 1⟩, rfl, g, f, hb, hq.imp (fun x => x) fun x => ⟨(show (0 : Nat) ≠ 1 by decide), x⟩⟩
theorem vr_p_known_by_rule {K : PySem.W.Frag} (vs H Q E) (h : sp_p_known_by_rule K vs H Q E) : (rd_p_known_by_rule K) { nx := fun _ H' => Q .non H', rt := Q } (start ["kind", "knots", "one", "other", "test"] vs) H := by
  obtain ⟨qa, ks, rfl, hk, hl, q⟩ := h
  have q0 := q
  have q := RetV.go q (Ex.refl H)
  unfold rd_p_known_by_rule
  rcases len_cases hl with ⟨x, y, rfl⟩ | ⟨t, x, y, rfl⟩
  · have e : kindOf [x, y] = "unlike" := rfl
    rw [e]
    change Q (optV (if x = y then some 0 else if y = 0 then some x else if x = 0 then some y else none)) H at q
    walk_at "zz"
    rw [if_pos (by decide +kernel)]
    walk_at "zz"
    refine z_gtup2 (st_of hk) ?_
    walk_at "zz"
    rw [vi_eq]
    refine ite_b (fun c => ?_) (fun c => ?_)
    · rw [if_pos (of_decide_eq_true c)] at q
      walk_at "zz"
      exact q
    rw [if_neg (of_decide_eq_false c)] at q
    walk_at "zz"
    rw [vi_eq0]
    refine ite_b (fun c => ?_) (fun c => ?_)
    · rw [if_pos (of_decide_eq_true c)] at q
      walk_at "zz"
      exact q
    rw [if_neg (of_decide_eq_false c)] at q
    walk_at "zz"
    rw [vi_eq0]
    refine ite_b (fun c => ?_) (fun c => ?_)
    · rw [if_pos (of_decide_eq_true c)] at q
      walk_at "zz"
      exact q
    rw [if_neg (of_decide_eq_false c)] at q
    walk_at "zz"
    exact q
  · have e : kindOf [t, x, y] = "chosen" := rfl
    rw [e]
    change ∀ H1, Ex H H1 → Q (optV (if t = 1 ∨ x = y then some x else if t = 0 then some y else if y = 0 ∧ (x = 1 ∨ x = t) then some t else if x = 1 ∧ t = y then some y else none)) H1 at q0
    change Q (optV (if t = 1 ∨ x = y then some x else if t = 0 then some y else if y = 0 ∧ (x = 1 ∨ x = t) then some t else if x = 1 ∧ t = y then some y else none)) H at q
    walk_at "zz"
    rw [if_neg (by decide +kernel)]
    walk_at "zz"
    refine ZN.z_g3 (st_of hk) ?_
    have last : ∀ σ : L2.St, σ[4]? = some (some (vi t)) → σ[2]? = some (some (vi x)) → σ[3]? = some (some (vi y)) → t ≠ 1 → x ≠ y → t ≠ 0 → ∀ H1, Ex H H1 → ¬ (y = 0 ∧ (x = 1 ∨ x = t)) →
        (tRet (tIf (tAnd (tTest (tOp rEq (tVar 2) (tC (V.int 1)))) (tTest (tOp rEq (tVar 4) (tVar 3)))) (tVar 3) (tC V.non))) { nx := fun x H' => Q V.non H', rt := Q } σ H1 := fun σ s4 s2 s3 t1 xy t0 H1 x1 nn => by
      have q := q0 H1 x1
      rw [if_neg (fun z => z.elim t1 xy), if_neg t0, if_neg nn] at q
      refine z_ret (z_if (z_and (z_test (z_op (z_var s2 (z_c (z_eq rfl (z_bl ?_))))))))
      rw [vi_eq1]
      refine ite_b (fun c => ?_) (fun c => ?_)
      · refine z_test (z_op (z_var s4 (z_var s3 (z_eq rfl (z_bl ?_)))))
        rw [vi_eq]
        refine ite_b (fun c2 => ?_) (fun c2 => ?_)
        · rw [if_pos ⟨of_decide_eq_true c, of_decide_eq_true c2⟩] at q
          exact z_var s3 q
        · rw [if_neg fun z => of_decide_eq_false c2 z.2] at q
          exact z_c q
      · rw [if_neg Bool.false_ne_true]
        rw [if_neg fun z => of_decide_eq_false c z.1] at q
        exact z_c q
    walk_at "zz"
    rw [vi_eq1]
    refine ite_b (fun c => ?_) (fun c => ?_)
    · rw [if_pos (.inl (of_decide_eq_true c))] at q
      walk_at "zz"
      exact q
    have t1 := of_decide_eq_false c
    walk_at "zz"
    rw [vi_eq]
    refine ite_b (fun c => ?_) (fun c => ?_)
    · rw [if_pos (.inr (of_decide_eq_true c))] at q
      walk_at "zz"
      exact q
    have xy := of_decide_eq_false c
    rw [if_neg (fun z => z.elim t1 xy)] at q
    walk_at "zz"
    rw [vi_eq0]
    refine ite_b (fun c => ?_) (fun c => ?_)
    · rw [if_pos (of_decide_eq_true c)] at q
      walk_at "zz"
      exact q
    have t0 := of_decide_eq_false c
    rw [if_neg t0] at q
    walk_at "zz"
    rw [vi_eq0]
    refine ite_b (fun c => ?_) (fun c => ?_)
    · have y0 := of_decide_eq_true c
      walk_at "zz"
      refine ⟨szl (by show 2 ≤ 1000; decide), fun p3 n3 => ?_⟩
      have x3 := Ex.new (o := .tup [V.int 1, vi t]) n3
      refine z_inT (xs := [V.int 1, vi t]) (st_of upd_same) rfl rfl ?_
      rw [if_neg Bool.false_ne_true]
      have e : inV (vi x) [V.int 1, vi t] = decide (x = 1 ∨ x = t) := by
        show (eqV (V.int 1) (vi x) || (eqV (vi t) (vi x) || false)) = _
        have e1 : ∀ a b : Int, eqV (V.int a) (V.int b) = decide (a = b) := fun _ _ => rfl
        rw [e1, e1, Bool.or_false]
        by_cases h1 : x = 1
        · rw [decide_eq_true (show x = 1 ∨ x = t from .inl h1), decide_eq_true (show (1 : Int) = (x : Int) by omega)]; rfl
        · rw [decide_eq_false (show ¬ (1 : Int) = (x : Int) by omega), Bool.false_or]
          by_cases h2 : x = t
          · rw [decide_eq_true (show x = 1 ∨ x = t from .inr h2), decide_eq_true (show (t : Int) = (x : Int) by omega)]
          · rw [decide_eq_false (show ¬ (x = 1 ∨ x = t) from fun z => z.elim h1 h2), decide_eq_false (show ¬ (t : Int) = (x : Int) by omega)]
      rw [e]
      refine z_bl ?_
      refine ite_b (fun c => ?_) (fun c => ?_)
      · have q := q0 _ x3
        rw [if_neg (fun z => z.elim t1 xy), if_neg t0, if_pos ⟨y0, of_decide_eq_true c⟩] at q
        walk_at "zz"
        exact q
      · refine z_next ?_
        exact last _ rfl rfl rfl t1 xy t0 _ x3 fun z => of_decide_eq_false c z.2
    · rw [if_neg Bool.false_ne_true]
      refine z_next ?_
      exact last _ rfl rfl rfl t1 xy t0 _ (Ex.refl H) fun z => of_decide_eq_false c z.1
theorem pow_cast (n : Nat) : ((2 : Int) ^ n) = ((2 ^ n : Nat) : Int) := by push_cast <;> rfl
theorem band_nat (x y : Nat) : Builtin.bitAnd (x : Int) (y : Int) = ((x &&& y : Nat) : Int) := rfl
theorem bor_nat (x y : Nat) : Builtin.bitOr (x : Int) (y : Int) = ((x ||| y : Nat) : Int) := bitOr_nn (Int.natCast_nonneg x) (Int.natCast_nonneg y)
theorem and_or (x y : Nat) : x + y = (x ||| y) + (x &&& y) := by
  induction x using Nat.strongRecOn generalizing y with
  | ind x ih =>
    by_cases h0 : x = 0
    · subst h0
      rw [Nat.zero_or, Nat.zero_and]
      omega
    · have i1 := ih (x / 2) (by omega) (y / 2)
      have a1 := and2 x y
      have a2 := or2 x y
      have d1 : (x &&& y) / 2 = x / 2 &&& y / 2 := Nat.and_div_two
      have d2 : (x ||| y) / 2 = x / 2 ||| y / 2 := Nat.or_div_two
      generalize x &&& y = A at *
      generalize x ||| y = B at *
      generalize x / 2 &&& y / 2 = A2 at *
      generalize x / 2 ||| y / 2 = B2 at *
      have hx := Nat.mod_two_eq_zero_or_one x
      have hy := Nat.mod_two_eq_zero_or_one y
      rcases hx with hx | hx <;> rcases hy with hy | hy <;> rw [hx, hy] at a1 a2 <;> simp at a1 a2 <;> omega
theorem xor_or (x y : Nat) : (x ^^^ y) + (x &&& y) = x ||| y := by
  induction x using Nat.strongRecOn generalizing y with
  | ind x ih =>
    by_cases h0 : x = 0
    · subst h0
      rw [Nat.zero_or, Nat.zero_and, Nat.zero_xor] <;> rfl
    · have i1 := ih (x / 2) (by omega) (y / 2)
      have a1 := and2 x y
      have a2 := or2 x y
      have a3 := xor2 x y
      have d1 : (x &&& y) / 2 = x / 2 &&& y / 2 := Nat.and_div_two
      have d2 : (x ||| y) / 2 = x / 2 ||| y / 2 := Nat.or_div_two
      have d3 : (x ^^^ y) / 2 = x / 2 ^^^ y / 2 := Nat.xor_div_two
      generalize x &&& y = A at *
      generalize x ||| y = B at *
      generalize x ^^^ y = C at *
      generalize x / 2 &&& y / 2 = A2 at *
      generalize x / 2 ||| y / 2 = B2 at *
      generalize x / 2 ^^^ y / 2 = C2 at *
      have hx := Nat.mod_two_eq_zero_or_one x
      have hy := Nat.mod_two_eq_zero_or_one y
      rcases hx with hx | hx <;> rcases hy with hy | hy <;> rw [hx, hy] at a1 a2 a3 <;> simp at a1 a2 a3 <;> omega
theorem bxor_nat (x y : Nat) : Builtin.bitXor (x : Int) (y : Int) = ((x ^^^ y : Nat) : Int) := by
  show Builtin.bitOr (x : Int) (y : Int) - Builtin.bitAnd (x : Int) (y : Int) = _
  rw [bor_nat, band_nat]
  have := xor_or x y
  omega
theorem shr_nat (t p : Nat) : (t : Int) / 2 ^ ((p : Int)).toNat = ((t / 2 ^ p : Nat) : Int) := by
  rw [Int.toNat_natCast, pow_cast]
  exact_mod_cast rfl
theorem shr_and (t p : Nat) : Builtin.bitAnd ((t : Int) / 2 ^ ((p : Int)).toNat) 1 = ((t.testBit p).toNat : Int) := by
  rw [shr_nat]
  have e := band_nat (t / 2 ^ p) 1
  refine e.trans ?_
  rw [Nat.and_one_is_mod, Nat.testBit_eq_decide_div_mod_eq]
  have := Nat.mod_two_eq_zero_or_one (t / 2 ^ p)
  rcases this with h | h <;> rw [h] <;> rfl
theorem one_is (b : Bool) : decide (V.int (b.toNat : Int) = V.int 1) = b := by cases b <;> decide
theorem vr_L_bit {K : PySem.W.Frag} (vs H Q E) (h : sp_L_bit vs H Q E) : (rd_L_bit K) { nx := fun _ H' => Q .non H', rt := Q } (start ["_law_place", "_law_word_here"] vs) H := by
  obtain ⟨p, rfl, hp, q⟩ := h
  unfold rd_L_bit
  walk_at "zz"
  refine z_CR1 ⟨by decide, by decide⟩ (fun m => m.testBit p) (fun m => .int (((2 ^ m : Nat)) : Int)) (fun _ => rfl) (fun i H' hi e => fun H2 e2 Q' q' => ?_) (fun i H' hi e _ => fun H2 e2 Q' q' => ?_) (fun l H1 hl e1 h1 => ?_)
  · walk_at "zz"
    refine z_i (show (0 : Int) ≤ (p : Int) by omega) ?_
    walk_at "zz"
    rw [shr_and, one_is]
    exact q' _ (Ex.refl _)
  · walk_at "zz"
    refine z_i (shl1 (by have : i < 32 := hi; omega)) ?_
    rw [Int.toNat_natCast, Int.one_mul, pow_cast]
    exact q' _ (Ex.refl _)
  walk_at "zz"
  refine ⟨l, ((List.range 32).filter fun m => m.testBit p).map fun m => ((2 ^ m : Nat) : Int), rfl, sq_of (by rw [h1, List.map_map]; rfl), ?_⟩
  have e : (((List.range 32).filter fun m => m.testBit p).map fun m => ((2 ^ m : Nat) : Int)).sum = ((bitT p : Nat) : Int) := by
    have : p = 0 ∨ p = 1 ∨ p = 2 ∨ p = 3 ∨ p = 4 := by omega
    rcases this with rfl | rfl | rfl | rfl | rfl <;> decide +kernel
  rw [e]
  exact q _ e1
theorem vr_Diagrams_beyond {K : PySem.W.Frag} (k_Diagrams : Cls K (He.ga K "Diagrams")) (a_Diagrams_bits : NoAttr K (He.ga K "Diagrams") "bits") (vs H Q E) (h : sp_Diagrams_beyond K w P vs H Q E) : (rd_Diagrams_beyond K w P) { nx := fun _ H' => Q .non H', rt := Q } (start ["self", "knot", "size", "word"] vs) H := by
  obtain ⟨d, a, most, D, L, k, z, m, rfl, g, hk, hz, q⟩ := h
  unfold rd_Diagrams_beyond
  walk_at "zz"
  refine z_while (W := fun r σ H1 => σ = start ["self", "knot", "size", "word"] [.ref d, vi r, vi z, vi m] ∧ r < D.length + 2 ∧ Ex H H1 ∧ ∀ u, (∀ b, b < z → u b = wd m b) → val D u r = val D u k) k ⟨rfl, hk, Ex.refl H, fun _ _ => rfl⟩ fun r σ H1 hW => ?_
  obtain ⟨rfl, hr, e1, hv⟩ := hW
  have g1 := g.ex e1
  walk_at "zz"
  refine g1.f1 k_Diagrams a_Diagrams_bits ?_
  walk_at "zz"
  refine z_ixL (sq_of g1.h1) (at_bits hr) ?_
  walk_at "zz"
  refine ite_b (fun c => ?_) (fun c => ?_)
  · have c : bitAt D r < z := by have := of_decide_eq_true c; omega
    obtain ⟨s1, s2⟩ := beyond_step g.ok hr (by omega) (wd m)
    refine ⟨fun σ' H' => ∃ r', r' < r ∧ σ' = start ["self", "knot", "size", "word"] [.ref d, vi r', vi z, vi m] ∧ r' < D.length + 2 ∧ Ex H H' ∧ ∀ u, (∀ b, b < z → u b = wd m b) → val D u r' = val D u k, fun σ' H' h => by
      obtain ⟨r', h1, h2⟩ := h
      exact ⟨r', h1, h2⟩, ?_⟩
    walk_at "zz"
    refine g1.m (by decide +kernel) ?_
    walk_at "zz"
    refine g1.f1 k_Diagrams a_Diagrams_bits ?_
    walk_at "zz"
    refine z_ixL (sq_of g1.h1) (at_bits hr) ?_
    walk_at "zz"
    refine g1.f1 k_Diagrams a_Diagrams_bits ?_
    walk_at "zz"
    refine z_ixL (sq_of g1.h1) (at_bits hr) ?_
    walk_at "zz"
    refine z_i (show (0 : Int) ≤ ((bitAt D r : Nat) : Int) by omega) ?_
    walk_at "zz"
    rw [shr_and]
    refine ⟨d, a, most, D, L, r, bitAt D r, m.testBit (bitAt D r), ?_, g1, hr, by omega, fun H2 e2 => ?_⟩
    · cases m.testBit (bitAt D r) <;> rfl
    walk_at "zz"
    refine ⟨_, s1, rfl, by have : side D r (bitAt D r) (wd m (bitAt D r)) < r := s1; omega, e1.trans e2, fun u hu => ?_⟩
    have hb := hu (bitAt D r) c
    have s3 := (beyond_step g.ok hr (by omega) u).2
    rw [hb] at s3
    rw [← hv u hu, s3]
  · have c : z ≤ bitAt D r := by have := of_decide_eq_false c; omega
    walk_at "zz"
    exact q H1 r hr c hv e1
theorem vr_Diagrams_told {K : PySem.W.Frag} (vs H Q E) (h : sp_Diagrams_told K w P vs H Q E) : (rd_Diagrams_told K w P) { nx := fun _ H' => Q .non H', rt := Q } (start ["self", "knot", "word"] vs) H := by
  obtain ⟨d, a, most, D, L, k, m, rfl, g, hk, q⟩ := h
  unfold rd_Diagrams_told
  walk_at "zz"
  refine g.m (by decide +kernel) ?_
  walk_at "zz"
  refine ⟨d, a, most, D, L, k, NO, m, rfl, g, hk, Nat.le_refl _, fun H1 r hr hb hv e1 => ?_⟩
  have r2 : r < 2 := by
    by_cases z : r < 2
    · exact z
    · obtain ⟨n, rfl⟩ : ∃ n, r = n + 2 := ⟨r - 2, by omega⟩
      have e := List.getElem?_eq_getElem (show n < D.length by omega)
      have b1 := g.b64 _ (List.getElem_mem (show n < D.length by omega))
      rw [bit_knot e] at hb
      have : NO = 1000000 := rfl
      omega
  have v := hv (wd m) fun _ _ => rfl
  rw [val_end r2] at v
  rw [← v] at q
  have e : r = (r == 1).toNat := by
    have : r = 0 ∨ r = 1 := by omega
    rcases this with rfl | rfl <;> rfl
  rw [← e] at q
  exact q _ e1

/-- the cost of a level -/
theorem cost {f c : Nat} (h : 5 ≤ f + c) (f5 : f < 5) : 4 - f < c ∧ 2 * 2 ^ (4 - f) ≤ 2 ^ c := by
  refine ⟨by omega, ?_⟩
  have : 2 ^ (4 - f + 1) ≤ 2 ^ c := Nat.pow_le_pow_right (by decide) (by omega)
  rw [Nat.pow_succ] at this
  omega
theorem vi_min {x y : Nat} : V.int (if (y : Int) < (x : Int) then (y : Int) else (x : Int)) = vi (min x y) := by
  show V.int _ = V.int _
  congr 1
  split <;> omega
theorem vi_max {x y : Nat} : V.int (if (y : Int) > (x : Int) then (y : Int) else (x : Int)) = vi (max x y) := by
  show V.int _ = V.int _
  congr 1
  split <;> omega
theorem five_kn {D : List Nd} {n : Nd} (h : Five D) (hn : n.b < 5) : Five (kn D n) := kn_lt h hn
theorem vr_Diagrams_p_choice (n : Nat) (k_Diagrams : Cls K (He.ga K "Diagrams")) (a_Diagrams_bits : NoAttr K (He.ga K "Diagrams") "bits") (vs H Q E) (h : sp_Diagrams_p_choice K w P (n + 1) vs H Q E) : (rd_Diagrams_p_choice K w P (sp_Diagrams_p_choice K w P n)) { nx := fun _ H' => Q .non H', rt := Q } (start ["self", "bit", "low", "high", "first", "lows", "highs"] vs) H := by
  obtain ⟨d, a, most, D, L, b, l, h, c, rfl, hc, g, fv, ⟨b5, hl, hh⟩, ⟨cb, cl, ch⟩, fit, q⟩ := h
  unfold rd_Diagrams_p_choice
  walk_at "zz"
  refine g.f1 k_Diagrams a_Diagrams_bits ?_
  walk_at "zz"
  refine z_ixL (sq_of g.h1) (at_bits hl) ?_
  walk_at "zz"
  refine g.f1 k_Diagrams a_Diagrams_bits ?_
  walk_at "zz"
  refine z_ixL (sq_of g.h1) (at_bits hh) ?_
  walk_at "zz"
  refine z_min3 fun mm mo m1 m2 m3 => ?_
  obtain ⟨f, rfl⟩ : ∃ f : Nat, mm = (f : Int) := ⟨mm.toNat, by omega⟩
  have fb : f ≤ b := by omega
  have fl : f ≤ bitAt D l := by omega
  have fh : f ≤ bitAt D h := by omega
  have f5 : f < 5 := by omega
  have fNO : f < NO := by show f < 1000000; omega
  have cf : 5 ≤ f + c := by omega
  obtain ⟨cc, cost⟩ := cost cf f5
  have pp := Nat.two_pow_pos (4 - f)
  walk_at "zz"
  refine g.m (by decide +kernel) ?_
  walk_at "zz"
  refine ⟨d, a, most, D, L, l, f, false, rfl, g, hl, fNO, fun H1 e1 => ?_⟩
  have g1 := g.ex e1
  walk_at "zz"
  refine g1.m (by decide +kernel) ?_
  walk_at "zz"
  refine ⟨d, a, most, D, L, h, f, false, rfl, g1, hh, fNO, fun H2 e2 => ?_⟩
  have g2 := g1.ex e2
  walk_at "zz"
  refine ⟨szl (by show 2 ≤ 1000; decide), fun p5 n5 => ?_⟩
  have e3 := Ex.new (o := .tup [vi (side D l f false), vi (side D h f false)]) n5
  have g3 := g2.ex e3
  have s5 : (upd H2 p5 (.tup [vi (side D l f false), vi (side D h f false)])) p5 = some (.tup [vi (side D l f false), vi (side D h f false)]) := upd_same
  generalize upd H2 p5 (.tup [vi (side D l f false), vi (side D h f false)]) = H3 at e3 g3 s5 ⊢
  walk_at "zz"
  refine g3.m (by decide +kernel) ?_
  walk_at "zz"
  refine ⟨d, a, most, D, L, l, f, true, rfl, g3, hl, fNO, fun H4 e4 => ?_⟩
  have g4 := g3.ex e4
  walk_at "zz"
  refine g4.m (by decide +kernel) ?_
  walk_at "zz"
  refine ⟨d, a, most, D, L, h, f, true, rfl, g4, hh, fNO, fun H5 e5 => ?_⟩
  have g5 := g4.ex e5
  walk_at "zz"
  refine ⟨szl (by show 2 ≤ 1000; decide), fun p6 n6 => ?_⟩
  have e6 := Ex.new (o := .tup [vi (side D l f true), vi (side D h f true)]) n6
  have g6 := g5.ex e6
  have s6 : (upd H5 p6 (.tup [vi (side D l f true), vi (side D h f true)])) p6 = some (.tup [vi (side D l f true), vi (side D h f true)]) := upd_same
  generalize upd H5 p6 (.tup [vi (side D l f true), vi (side D h f true)]) = H6 at e6 g6 s6 ⊢
  have s5 := e6 _ _ (e5 _ _ (e4 _ _ s5))
  have x6 : Ex H H6 := e1.trans (e2.trans (e3.trans (e4.trans (e5.trans e6))))
  clear e1 e2 e3 e4 e5 e6 g1 g2 g3 g4 g5 n5 n6
  walk_at "zz"
  rw [vi_eq]
  refine ite_b (fun z => ?_) (fun z => ?_)
  · have z := of_decide_eq_true z
    subst z
    obtain ⟨ft, cs⟩ := chs_end g.ok hl hh fl fh fNO
    obtain ⟨M, len1, _⟩ := kn_ok g.ok ft
    walk_at "zz"
    refine g6.m (by decide +kernel) ?_
    walk_at "zz"
    refine z_ixT (st_of s5) rfl ?_
    walk_at "zz"
    refine z_ixT (st_of s6) rfl ?_
    walk_at "zz"
    refine ⟨d, a, most, D, L, ⟨f, side D l f false, side D h f true⟩, rfl, g6, ft, by show f < 64; omega, .inl ⟨by omega, fun H7 g7 b7 => ?_⟩⟩
    exact q H7 _ _ g7 M (five_kn fv f5) (by omega) cs ((But.ex x6).trans b7)
  · have z := of_decide_eq_false z
    have inf : f = bitAt D l ∨ f = bitAt D h := by omega
    have fb : f < b := by omega
    have sl := fun c => side_bd g.ok hl fl fNO c
    have sh := fun c => side_bd g.ok hh fh fNO c
    walk_at "zz"
    refine g6.m (by decide +kernel) ?_
    walk_at "zz"
    refine g6.m (by decide +kernel) ?_
    walk_at "zz"
    refine z_ixT (st_of s5) rfl ?_
    walk_at "zz"
    refine z_ixT (st_of s5) rfl ?_
    walk_at "zz"
    refine ⟨d, a, most, D, L, b, side D l f false, side D h f false, 4 - f, rfl, by omega, g6, fv, ⟨b5, (sl false).1, (sh false).1⟩, ⟨by omega, by have := (sl false).2; omega, by have := (sh false).2; omega⟩, by omega, fun H7 D1 r1 g7 M1 fv1 len1 cs1 b7 => ?_⟩
    have s6 := b7 _ _ (g6.tne s6) s6
    have l1 := M1.len
    walk_at "zz"
    refine g7.m (by decide +kernel) ?_
    walk_at "zz"
    refine z_ixT (st_of s6) rfl ?_
    walk_at "zz"
    refine z_ixT (st_of s6) rfl ?_
    walk_at "zz"
    refine ⟨d, a, most, D1, L, b, side D l f true, side D h f true, 4 - f, rfl, by omega, g7, fv1, ⟨b5, by have := (sl true).1; omega, by have := (sh true).1; omega⟩, ⟨by omega, by rw [M1.bit (sl true).1]; have := (sl true).2; omega, by rw [M1.bit (sh true).1]; have := (sh true).2; omega⟩, by omega, fun H8 D2 r2 g8 M2 fv2 len2 cs2 b8 => ?_⟩
    obtain ⟨ft, cs⟩ := chs_step g.ok M1 M2 hl hh fb fl fh inf fNO cs1 cs2
    obtain ⟨M3, len3, _⟩ := kn_ok g8.ok ft
    walk_at "zz"
    refine ⟨d, a, most, D2, L, ⟨f, r1, r2⟩, rfl, g8, ft, by show f < 64; omega, .inl ⟨by omega, fun H9 g9 b9 => ?_⟩⟩
    exact q H9 _ _ g9 (M1.trans (M2.trans M3)) (five_kn fv2 f5) (by omega) cs ((But.ex x6).trans (b7.trans (b8.trans b9)))

theorem map_at {α β : Type} (F : α → β) (d : α) : ∀ ks : List α, (List.range ks.length).map (fun i => F (ks.getD i d)) = ks.map F
  | [] => rfl
  | k :: ks => by
    rw [List.length_cons, List.range_succ_eq_map, List.map_cons, List.map_map, List.map_cons]
    congr 1
    exact (map_at F d ks)
abbrev ik (ks : List Nat) : List Int := ks.map fun k : Nat => (k : Int)
theorem ik_vi (ks : List Nat) : (ik ks).map V.int = ks.map vi := by
  rw [List.map_map]
  rfl
theorem ik_inj : ∀ {a b : List Nat}, ik a = ik b → a = b
  | [], [], _ => rfl
  | [], _ :: _, h => by cases h
  | _ :: _, [], h => by cases h
  | x :: a, y :: b, h => by
    injection h with h1 h2
    have h1 : (x : Int) = (y : Int) := h1
    have h1 : x = y := by omega
    rw [h1, ik_inj h2]
theorem kind_map (f : Nat → Nat) (ks : List Nat) : kindOf (ks.map f) = kindOf ks := by
  unfold kindOf
  rw [List.length_map]
theorem kind_no (ks : List Nat) : kindOf ks ≠ "choice" := by
  unfold kindOf
  split
  · exact of_decide_eq_false (by decide +kernel)
  · exact of_decide_eq_false (by decide +kernel)
theorem nk_at {H : Hp} {p qa : Addr} {kind : Str} {ks : List Nat} (h1 : H p = some (.tup [.str kind, .ref qa])) (h2 : H qa = some (.tup (ks.map vi))) : NkAt H (kind, ik ks) p := ⟨qa, h1, by rw [h2, ik_vi]⟩
theorem at_mem {L : NL} {k : NK} {v : V} (h : atN L k = some v) : ∃ p ∈ L, p.1 = k ∧ p.2.2 = v := by
  unfold atN at h
  obtain ⟨p, h1, h2⟩ := Option.map_eq_some_iff.mp h
  exact ⟨p, List.mem_of_find?_eq_some h1, of_decide_eq_true (by simpa using List.find?_some h1), h2⟩
theorem at_put (L : NL) (k : NK) (a : Addr) (v : V) : atN (putN L k a v) k = some v := by
  unfold putN
  by_cases h : (atN L k).isSome
  · rw [if_pos h]
    induction L with
    | nil => cases h
    | cons x L ih =>
      unfold atN
      rw [List.map_cons, List.find?_cons]
      by_cases e : x.1 = k
      · rw [if_pos e, decide_eq_true e]
        rfl
      · rw [if_neg e, decide_eq_false e]
        refine ih ?_
        unfold atN at h ⊢
        rw [List.find?_cons, decide_eq_false e] at h
        exact h
  · rw [if_neg h]
    have h : atN L k = none := by
      cases z : atN L k with
      | none => rfl
      | some y => rw [z] at h; exact absurd rfl h
    unfold atN at h ⊢
    rw [List.find?_append, Option.map_eq_none_iff.mp h, List.find?_cons, decide_eq_true rfl]
    rfl
theorem kno_at {D : List Nd} {L : NL} (h : KnOk D L) {ks : List Nat} {v : V} (e : atN L (kindOf ks, ik ks) = some v) : ∃ r, v = vi r ∧ Made D ks r := by
  obtain ⟨p, hp, e1, e2⟩ := at_mem e
  obtain ⟨ks2, r, f1, f2, m⟩ := h p hp
  rw [e1] at f1
  injection f1 with _ f1
  rw [ik_inj f1]
  exact ⟨r, e2.symm.trans f2, m⟩
theorem Dg.know {H : Hp} {d p : Addr} {a : Nat → Addr} {most r : Nat} {D : List Nd} {L : NL} {ks : List Nat} (g : Dg K w P H d a most D L) (nk : NkAt H (kindOf ks, ik ks) p) (m : Made D ks r) (lz : L.length + 1 ≤ 100000) :
    Dg K w P (upd H (a 6) (NdO P w (a 6) (putN L (kindOf ks, ik ks) p (vi r)))) d a most D (putN L (kindOf ks, ik ks) p (vi r)) where
  ins := by
    obtain ⟨dx, i⟩ := g.ins
    exact ⟨dx, by rw [upd_ne (fun z => g.dne (by rw [z]; simp))]; exact i⟩
  h1 := by rw [upd_ne (g.ne ⟨by decide, by decide⟩ ⟨by decide, by decide⟩ (by decide))]; exact g.h1
  h2 := by rw [upd_ne (g.ne ⟨by decide, by decide⟩ ⟨by decide, by decide⟩ (by decide))]; exact g.h2
  h3 := by rw [upd_ne (g.ne ⟨by decide, by decide⟩ ⟨by decide, by decide⟩ (by decide))]; exact g.h3
  h4 := by rw [upd_ne (g.ne ⟨by decide, by decide⟩ ⟨by decide, by decide⟩ (by decide))]; exact g.h4
  h5 := by rw [upd_ne (g.ne ⟨by decide, by decide⟩ ⟨by decide, by decide⟩ (by decide))]; exact g.h5
  h6 := upd_same
  keys := by
    have k1 : NkAll (upd H (a 6) (NdO P w (a 6) (putN L (kindOf ks, ik ks) p (vi r)))) L := fun x hx => by
      obtain ⟨b, k1, k2⟩ := g.keys x hx
      exact ⟨b, by rw [upd_ne (fun z => g.tne k1 (by rw [z]; simp))]; exact k1, by rw [upd_ne (fun z => g.tne k2 (by rw [z]; simp))]; exact k2⟩
    refine keys_put k1 ?_
    obtain ⟨b, k1, k2⟩ := nk
    exact ⟨b, by rw [upd_ne (fun z => g.tne k1 (by rw [z]; simp))]; exact k1, by rw [upd_ne (fun z => g.tne k2 (by rw [z]; simp))]; exact k2⟩
  apart := g.apart
  ok := g.ok
  b64 := g.b64
  fits := ⟨g.fits.1, g.fits.2.1, Nat.le_trans (len_put L _ p (vi r)) lz⟩
  known := fun x hx => by
    rcases mem_put hx with h | h | ⟨h1, h2, _⟩
    · exact g.known x h
    · rw [h]
      exact ⟨ks, r, rfl, rfl, m⟩
    · exact ⟨ks, r, h1, h2, m⟩

theorem made_end {H : Hp} {Q : VK} {D0 : Ends} {d qa : Addr} {a : Nat → Addr} {most r : Nat} {D : List Nd} {L : NL} {ks : List Nat} {σ : L2.St} (kc : Cls K (DC K)) (ka : NoAttr K (DC K) "known") (s0 : σ[0]? = some (some (.ref d))) (s1 : σ[1]? = some (some (.str (kindOf ks)))) (s2 : σ[2]? = some (some (.ref qa)))
    (g : Dg K w P H d a most D L) (hq : H qa = some (.tup (ks.map vi))) (e : atN L (kindOf ks, ik ks) = some (vi r)) (hr : D0.rt = Q) (q : ∀ H2, Ex H H2 → Q (vi r) H2) :
    (tRet (tNGet P w (tFld K (tVar 0) "known") (tTup (tCons (tVar 1) (tCons (tVar 2) tNil))))) D0 σ H := by
  refine z_ret (z_nget (z_fld (z_var s0 ?_)))
  refine g.f6 kc ka ?_
  refine z_tup (z_cons (z_var s1 (z_cons (z_var s2 (z_nil ?_)))))
  refine ⟨szl (by show 2 ≤ 1000; decide), fun p hp => ?_⟩
  have x := Ex.new (o := .tup [.str (kindOf ks), .ref qa]) hp
  have g2 := g.ex x
  refine ⟨a 6, vi r, rfl, ⟨L, (kindOf ks, ik ks), p, g2.h6, g2.keys, rfl, nk_at upd_same (x _ _ hq), e.symm⟩, ?_⟩
  rw [hr]
  exact q _ x
theorem at_ks {ks : List Nat} {i : Nat} {x : V} (h : (ks.map vi)[i]? = some x) : x = vi (ks.getD i 0) ∧ ks.getD i 0 ∈ ks := by
  rw [List.getElem?_map] at h
  obtain ⟨k, h1, h2⟩ := Option.map_eq_some_iff.mp h
  rw [List.getD_eq_getElem?_getD, h1]
  exact ⟨h2.symm, List.mem_of_getElem? h1⟩
theorem vr_Diagrams_p_made (n : Nat) (k_Diagrams : Cls K (He.ga K "Diagrams")) (a_Diagrams_bits : NoAttr K (He.ga K "Diagrams") "bits") (a_Diagrams_known : NoAttr K (He.ga K "Diagrams") "known") (vs H Q E) (h : sp_Diagrams_p_made K w P (n + 1) vs H Q E) : (rd_Diagrams_p_made K w P (sp_Diagrams_p_made K w P n)) { nx := fun _ H' => Q .non H', rt := Q } (start ["self", "kind", "knots", "plain", "bit", "low", "high", "knot"] vs) H := by
  obtain ⟨d, qa, a, most, D, L, kind, ks, c, rfl, hc, g, fv, hq, fit, fitL, h⟩ := h
  unfold rd_Diagrams_p_made
  rcases h with ⟨rfl, hl, hk, q⟩ | ⟨rfl, rfl, b, l, h, rfl, ⟨b5, hl, hh⟩, q⟩
  rotate_left
  · walk_at "zz"
    rw [if_pos (by decide +kernel)]
    walk_at "zz"
    refine g.m (by decide +kernel) ?_
    walk_at "zz"
    refine z_ixT (st_of hq) rfl ?_
    walk_at "zz"
    refine z_ixT (st_of hq) rfl ?_
    walk_at "zz"
    refine z_ixT (st_of hq) rfl ?_
    walk_at "zz"
    exact ⟨d, a, most, D, L, b, l, h, 5, rfl, by decide, g, fv, ⟨b5, hl, hh⟩, ⟨by omega, by omega, by omega⟩, fit, q⟩
  walk_at "zz"
  rw [if_neg (by rw [decide_eq_true_iff]; intro z; injection z with z; exact kind_no ks z)]
  walk_at "zz"
  refine ⟨qa, ks, rfl, hq, hl, fun H1 e1 => ?_⟩
  have g1 := g.ex e1
  have hq1 := e1 _ _ hq
  have hks : ∀ k ∈ ks, k < D.length + 2 := fun k h => (hk k h).1
  cases er : ruleL ks with
  | some r =>
    rw [show optV (some r) = vi r from rfl]
    walk_at "zz"
    rw [if_pos (by simp)]
    walk_at "zz"
    have := Nat.two_pow_pos c
    exact q H1 D L r g1 (.refl g.ok) fv (by omega) (by omega) (rule_made hks hl er) (But.ex e1)
  | none =>
    rw [show optV none = V.non from rfl]
    walk_at "zz"
    rw [if_neg (by simp)]
    walk_at "zz"
    refine ⟨szl (by show 2 ≤ 1000; decide), fun p0 n0 => ?_⟩
    have x0 := Ex.new (o := .tup [V.str (kindOf ks), .ref qa]) n0
    have g2 := g1.ex x0
    have hq2 := x0 _ _ hq1
    have s0 : (upd H1 p0 (.tup [V.str (kindOf ks), .ref qa])) p0 = some (.tup [V.str (kindOf ks), .ref qa]) := upd_same
    generalize upd H1 p0 (.tup [V.str (kindOf ks), .ref qa]) = H2 at x0 g2 hq2 s0 ⊢
    have e2 := e1.trans x0
    clear e1 x0 g1 hq1 n0
    walk_at "zz"
    refine g2.f6 k_Diagrams a_Diagrams_known ?_
    refine ⟨a 6, atN L (kindOf ks, ik ks), rfl, ⟨L, (kindOf ks, ik ks), p0, g2.h6, g2.keys, rfl, nk_at s0 hq2, rfl⟩, ?_⟩
    cases ea : atN L (kindOf ks, ik ks) with
    | some v =>
      obtain ⟨r, rfl, md⟩ := kno_at g.known ea
      refine ⟨_, rfl, ite_f (z_next ?_)⟩
      refine made_end k_Diagrams a_Diagrams_known rfl rfl rfl g2 hq2 ea rfl fun H3 e3 => ?_
      have := Nat.two_pow_pos c
      exact q H3 D L r (g2.ex e3) (.refl g.ok) fv (by omega) (by omega) md (But.ex (e2.trans e3))
    | none =>
    refine ⟨_, rfl, ite_t ?_⟩
    walk_at "zz"
    refine z_CT (st_of hq2) (by rw [List.length_map]; have := hl; unfold Len at this; omega) (fun _ => true) (fun i => vi (bitAt D (ks.getD i 0))) (fun _ => rfl) (fun i x H' hi ex e => fun H2 e2 Q' q' => q' _ (Ex.refl _)) (fun i x H' hi ex e _ => fun Hb eb Q' q' => ?_) (fun l3 H3 n3 e3 h3 => ?_)
    · obtain ⟨rfl, mk⟩ := at_ks ex
      have gb := (g2.ex e).ex eb
      walk_at "zz"
      refine gb.f1 k_Diagrams a_Diagrams_bits ?_
      walk_at "zz"
      exact z_ixL (sq_of gb.h1) (at_bits (hks _ mk)) (q' _ (Ex.refl _))
    rw [given_all, List.length_map, map_at (fun k => vi (bitAt D k)) 0 ks] at h3
    have g3 := g2.ex e3
    have hq3 := e3 _ _ hq2
    walk_at "zz"
    refine ⟨l3, ks.map fun k => (bitAt D k : Int), rfl, sq_of (by rw [h3, List.map_map]; rfl), by rw [List.length_map]; have := hl; unfold Len at this; omega, fun m hm hle => ?_⟩
    obtain ⟨kb, hkb, rfl⟩ := List.mem_map.mp hm
    obtain ⟨k2, hk2, two⟩ := rule_none hl er
    have kb5 : bitAt D kb < 5 := by
      have h1 := hle _ (List.mem_map.mpr ⟨k2, hk2, rfl⟩)
      obtain ⟨j, rfl⟩ : ∃ j, k2 = j + 2 := ⟨k2 - 2, by omega⟩
      have h2 := hks _ hk2
      have ej := List.getElem?_eq_getElem (show j < D.length by omega)
      have h3 := fv _ (List.getElem_mem (show j < D.length by omega))
      rw [bit_knot ej] at h1
      omega
    have inb : ∃ k ∈ ks, bitAt D k = bitAt D kb := ⟨kb, hkb, rfl⟩
    have lowb : ∀ k ∈ ks, k < D.length + 2 ∧ bitAt D kb ≤ bitAt D k := fun k hk' => ⟨hks k hk', by have := hle _ (List.mem_map.mpr ⟨k, hk', rfl⟩); omega⟩
    have cb := (hk kb hkb).2
    generalize bitAt D kb = b at kb5 inb lowb cb ⊢
    have bNO : b < NO := by show b < 1000000; omega
    obtain ⟨cc, cst⟩ := cost cb kb5
    have pp := Nat.two_pow_pos (4 - b)
    walk_at "zz"
    refine g3.m (by decide +kernel) ?_
    walk_at "zz"
    refine z_CT (st_of hq3) (by rw [List.length_map]; have := hl; unfold Len at this; omega) (fun _ => true) (fun i => vi (side' D b false (ks.getD i 0))) (fun _ => rfl) (fun i x H' hi ex e => fun H2 e2 Q' q' => q' _ (Ex.refl _)) (fun i x H' hi ex e _ => fun Hb eb Q' q' => ?_) (fun l4 Hl4 nl4 el4 hl4 => ?_)
    · obtain ⟨rfl, mk⟩ := at_ks ex
      have gb := (g3.ex e).ex eb
      walk_at "zz"
      refine gb.m (by decide +kernel) ?_
      walk_at "zz"
      exact ⟨d, a, most, D, _, ks.getD i 0, b, false, rfl, gb, by have := hks _ mk; omega, bNO, fun Hc ec => q' _ ec⟩
    rw [given_all, List.length_map, map_at (fun k => vi (side' D b false k)) 0 ks] at hl4
    have g4 := g3.ex el4
    have hq4 := el4 _ _ hq3
    walk_at "zz"
    refine ⟨l4, ks.map fun k => vi (side' D b false k), rfl, .inl ⟨sq_of hl4, fun t4 nt4 => ?_⟩⟩
    have x4 := Ex.new (o := .tup (ks.map fun k => vi (side' D b false k))) nt4
    have st4 : (upd Hl4 t4 (.tup (ks.map fun k => vi (side' D b false k)))) t4 = some (.tup ((ks.map (side' D b false)).map vi)) := by rw [upd_same, List.map_map]; rfl
    have g5 := g4.ex x4
    have hq5 := x4 _ _ hq4
    have e5 := ((e2.trans e3).trans el4).trans x4
    generalize upd Hl4 t4 (.tup (ks.map fun k => vi (side' D b false k))) = H5 at x4 st4 g5 hq5 e5 ⊢
    clear x4 el4 e3 e2 g4 g3 g2 hq2 hq3 hq4
    walk_at "zz"
    have bds := fun (cc : Bool) k hk' => side_bd g.ok (lowb k hk').1 (lowb k hk').2 bNO cc
    refine ⟨d, t4, a, most, D, L, kindOf ks, ks.map (side' D b false), 4 - b, rfl, by omega, g5, fv, st4, by omega, by omega, .inl ⟨(kind_map _ ks).symm, by unfold Len; rw [List.length_map]; exact hl, fun k hk' => ?_, fun H6 D1 L1 r1 g6 M1 fv1 len1 lenL1 md1 b6 => ?_⟩⟩
    · obtain ⟨k0, hk0, rfl⟩ := List.mem_map.mp hk'
      have := bds false k0 hk0
      exact ⟨this.1, by have := this.2; show 5 ≤ bitAt D (side D k0 b false) + (4 - b); omega⟩
    have hq6 := b6 _ _ (g5.tne hq5) hq5
    have l1 := M1.len
    walk_at "zz"
    refine g6.m (by decide +kernel) ?_
    walk_at "zz"
    refine z_CT (st_of hq6) (by rw [List.length_map]; have := hl; unfold Len at this; omega) (fun _ => true) (fun i => vi (side' D1 b true (ks.getD i 0))) (fun _ => rfl) (fun i x H' hi ex e => fun H2 e2 Q' q' => q' _ (Ex.refl _)) (fun i x H' hi ex e _ => fun Hb eb Q' q' => ?_) (fun l7 Hl7 nl7 el7 hl7 => ?_)
    · obtain ⟨rfl, mk⟩ := at_ks ex
      have gb := (g6.ex e).ex eb
      walk_at "zz"
      refine gb.m (by decide +kernel) ?_
      walk_at "zz"
      exact ⟨d, a, most, D1, _, ks.getD i 0, b, true, rfl, gb, by have := hks _ mk; omega, bNO, fun Hc ec => q' _ ec⟩
    rw [given_all, List.length_map, map_at (fun k => vi (side' D1 b true k)) 0 ks] at hl7
    have g7 := g6.ex el7
    have hq7 := el7 _ _ hq6
    walk_at "zz"
    refine ⟨l7, ks.map fun k => vi (side' D1 b true k), rfl, .inl ⟨sq_of hl7, fun t7 nt7 => ?_⟩⟩
    have x7 := Ex.new (o := .tup (ks.map fun k => vi (side' D1 b true k))) nt7
    have st7 : (upd Hl7 t7 (.tup (ks.map fun k => vi (side' D1 b true k)))) t7 = some (.tup ((ks.map (side' D1 b true)).map vi)) := by rw [upd_same, List.map_map]; rfl
    have g8 := g7.ex x7
    have hq8 := x7 _ _ hq7
    have b8 := b6.trans (But.ex (el7.trans x7))
    generalize upd Hl7 t7 (.tup (ks.map fun k => vi (side' D1 b true k))) = H8 at x7 st7 g8 hq8 b8 ⊢
    clear x7 el7 g7 hq7 g6 hq6 b6
    walk_at "zz"
    refine ⟨d, t7, a, most, D1, L1, kindOf ks, ks.map (side' D1 b true), 4 - b, rfl, by omega, g8, fv1, st7, by omega, by omega, .inl ⟨(kind_map _ ks).symm, by unfold Len; rw [List.length_map]; exact hl, fun k hk' => ?_, fun H9 D2 L2 r2 g9 M2 fv2 len2 lenL2 md2 b9 => ?_⟩⟩
    · obtain ⟨k0, hk0, rfl⟩ := List.mem_map.mp hk'
      have := bds true k0 hk0
      show side D1 k0 b true < _ ∧ 5 ≤ bitAt D1 (side D1 k0 b true) + (4 - b)
      rw [side_ext M1 (hks k0 hk0) bNO true, M1.bit this.1]
      omega
    have hq9 := b9 _ _ (g8.tne hq8) hq8
    obtain ⟨ft, mdk⟩ := made_step g.ok M1 M2 lowb bNO inb md1 md2
    obtain ⟨M3, len3, _⟩ := kn_ok g9.ok ft
    walk_at "zz"
    refine g9.m (by decide +kernel) ?_
    walk_at "zz"
    refine ⟨d, a, most, D2, L2, ⟨b, r1, r2⟩, rfl, g9, ft, by show b < 64; omega, .inl ⟨by omega, fun H10 g10 b10 => ?_⟩⟩
    have hq10 := b10 _ _ (g9.tne hq9) hq9
    walk_at "zz"
    refine g10.f6 k_Diagrams a_Diagrams_known ?_
    walk_at "zz"
    refine ⟨szl (by show 2 ≤ 1000; decide), fun p11 n11 => ?_⟩
    have x11 := Ex.new (o := .tup [V.str (kindOf ks), .ref qa]) n11
    have g11 := g10.ex x11
    have hq11 := x11 _ _ hq10
    have s11 : (upd H10 p11 (.tup [V.str (kindOf ks), .ref qa])) p11 = some (.tup [V.str (kindOf ks), .ref qa]) := upd_same
    generalize upd H10 p11 (.tup [V.str (kindOf ks), .ref qa]) = H11 at x11 g11 hq11 s11 ⊢
    have nk := nk_at s11 hq11
    have fL := g11.fits.2.2
    refine ⟨a 6, _, rfl, ⟨L2, (kindOf ks, ik ks), p11, g11.h6, g11.keys, rfl, nk, by rw [sizeLine_eq]; omega, rfl⟩, ?_⟩
    have g12 := g11.know nk mdk (by omega)
    have b12 : But (dgL a) H11 (upd H11 (a 6) (NdO P w (a 6) (putN L2 (kindOf ks, ik ks) p11 (vi (kr D2 ⟨b, r1, r2⟩))))) := But.put (by simp)
    generalize upd H11 (a 6) (NdO P w (a 6) (putN L2 (kindOf ks, ik ks) p11 (vi (kr D2 ⟨b, r1, r2⟩)))) = H12 at g12 b12 ⊢
    have hq12 := b12 _ _ (g11.tne hq11) hq11
    refine z_next ?_
    refine made_end k_Diagrams a_Diagrams_known rfl rfl rfl g12 hq12 (at_put ..) rfl fun H13 e13 => ?_
    have lp := len_put L2 (kindOf ks, ik ks) p11 (vi (kr D2 ⟨b, r1, r2⟩))
    exact q H13 _ _ _ (g12.ex e13) (M1.trans (M2.trans M3)) (five_kn fv2 kb5) (by omega) (by omega) mdk ((But.ex e5).trans (b8.trans (b9.trans (b10.trans ((But.ex x11).trans (b12.trans (But.ex e13)))))))

theorem vr_Diagrams_p_whole {K : PySem.W.Frag} (k_Diagrams : Cls K (He.ga K "Diagrams")) (a_Diagrams_bits : NoAttr K (He.ga K "Diagrams") "bits") (vs H Q E) (h : sp_Diagrams_p_whole K w P vs H Q E) : (rd_Diagrams_p_whole K w P) { nx := fun _ H' => Q .non H', rt := Q } (start ["self", "kind", "knots", "many"] vs) H := by
  obtain ⟨d, qa, a, most, D, L, kind, ks, rfl, g, ⟨fv, f1, f2⟩, hq, h⟩ := h
  unfold rd_Diagrams_p_whole
  walk_at "zz"
  refine g.f1 k_Diagrams a_Diagrams_bits ?_
  walk_at "zz"
  refine z_lenL (sq_of g.h1) ?_
  walk_at "zz"
  refine g.m (by decide +kernel) ?_
  walk_at "zz"
  refine ⟨d, qa, a, most, D, L, kind, ks, 5, rfl, by decide, g, fv, hq, by omega, by omega, ?_⟩
  rcases h with ⟨e, hl, hk, q⟩ | ⟨e, b, l, h, ek, ⟨b5, hl, hh⟩, q⟩
  · refine .inl ⟨e, hl, fun k h => ⟨hk k h, by omega⟩, fun H' D' L' r g' M fv' l1 l2 md bt => q H' D' L' r g' M fv' (by omega) (by omega) md.2.1 (fun u => ?_) bt⟩
    rw [md.2.2.1 u]
    congr 1
    exact List.map_congr_left fun k h => M.val g.ok (hk k h) u
  · refine .inr ⟨e, rfl, b, l, h, ek, ⟨b5, hl, hh⟩, fun H' D' r g' M fv' l1 cs bt => q H' D' L r g' M fv' (by omega) (by omega) cs.1 (fun u => ?_) bt⟩
    rw [cs.2.1 u, M.val g.ok hl, M.val g.ok hh]
theorem Told.imp {d : Addr} {a : Nat → Addr} {most : Nat} {D : List Nd} {L : NL} {H H0 : Hp} {Q : VK} {f f' : (Nat → Bool) → Bool} (q : Told K w P d a most D L H0 Q f') (e : Ex H0 H) (h : ∀ u, f u = f' u) : Told K w P d a most D L H Q f :=
  fun H' D' L' r g' M fv' l1 l2 r1 v b => q H' D' L' r g' M fv' l1 l2 r1 (fun u => (v u).trans (h u)) ((But.ex e).trans b)
theorem vr_Diagrams_both {K : PySem.W.Frag} (vs H Q E) (h : sp_Diagrams_both K w P vs H Q E) : (rd_Diagrams_both K w P) { nx := fun _ H' => Q .non H', rt := Q } (start ["self", "one", "other"] vs) H := by
  obtain ⟨d, a, most, D, L, x0, y0, rfl, g, rm, ⟨hx, hy⟩, q⟩ := h
  unfold rd_Diagrams_both
  walk_at "zz"
  refine g.m (by decide +kernel) ?_
  walk_at "zz"
  rw [vi_min, vi_max]
  refine ⟨szl (by show 3 ≤ 1000; decide), fun p hp => ?_⟩
  have x := Ex.new (o := .tup ([min x0 y0, max x0 y0, 0].map vi)) hp
  have g1 := g.ex x
  have s1 : (upd H p (.tup ([min x0 y0, max x0 y0, 0].map vi))) p = some (.tup ([min x0 y0, max x0 y0, 0].map vi)) := upd_same
  refine z_nil ?_
  change sp_Diagrams_p_whole K w P _ (upd H p (.tup ([min x0 y0, max x0 y0, 0].map vi))) _ E0
  generalize upd H p (.tup ([min x0 y0, max x0 y0, 0].map vi)) = H1 at x g1 s1 ⊢
  refine ⟨d, p, a, most, D, L, "chosen", [min x0 y0, max x0 y0, 0], rfl, g1, rm, s1, .inl ⟨rfl, .inr rfl, fun k hk => ?_, Told.imp q x fun u => ?_⟩⟩
  · simp only [List.mem_cons, List.not_mem_nil, or_false] at hk
    rcases hk with rfl | rfl | rfl <;> omega
  · show (if val D u (min x0 y0) then val D u (max x0 y0) else val D u 0) = _
    rw [val0]
    rcases Nat.le_total x0 y0 with h | h
    · rw [Nat.min_eq_left h, Nat.max_eq_right h]
      cases val D u x0 <;> cases val D u y0 <;> rfl
    · rw [Nat.min_eq_right h, Nat.max_eq_left h]
      cases val D u x0 <;> cases val D u y0 <;> rfl
theorem vr_Diagrams_either {K : PySem.W.Frag} (vs H Q E) (h : sp_Diagrams_either K w P vs H Q E) : (rd_Diagrams_either K w P) { nx := fun _ H' => Q .non H', rt := Q } (start ["self", "one", "other"] vs) H := by
  obtain ⟨d, a, most, D, L, x0, y0, rfl, g, rm, ⟨hx, hy⟩, q⟩ := h
  unfold rd_Diagrams_either
  walk_at "zz"
  refine g.m (by decide +kernel) ?_
  walk_at "zz"
  rw [vi_min, vi_max]
  refine ⟨szl (by show 3 ≤ 1000; decide), fun p hp => ?_⟩
  have x := Ex.new (o := .tup ([min x0 y0, 1, max x0 y0].map vi)) hp
  have g1 := g.ex x
  have s1 : (upd H p (.tup ([min x0 y0, 1, max x0 y0].map vi))) p = some (.tup ([min x0 y0, 1, max x0 y0].map vi)) := upd_same
  refine z_nil ?_
  change sp_Diagrams_p_whole K w P _ (upd H p (.tup ([min x0 y0, 1, max x0 y0].map vi))) _ E0
  generalize upd H p (.tup ([min x0 y0, 1, max x0 y0].map vi)) = H1 at x g1 s1 ⊢
  refine ⟨d, p, a, most, D, L, "chosen", [min x0 y0, 1, max x0 y0], rfl, g1, rm, s1, .inl ⟨rfl, .inr rfl, fun k hk => ?_, Told.imp q x fun u => ?_⟩⟩
  · simp only [List.mem_cons, List.not_mem_nil, or_false] at hk
    rcases hk with rfl | rfl | rfl <;> omega
  · show (if val D u (min x0 y0) then val D u 1 else val D u (max x0 y0)) = _
    rw [val1]
    rcases Nat.le_total x0 y0 with h | h
    · rw [Nat.min_eq_left h, Nat.max_eq_right h]
      cases val D u x0 <;> cases val D u y0 <;> rfl
    · rw [Nat.min_eq_right h, Nat.max_eq_left h]
      cases val D u x0 <;> cases val D u y0 <;> rfl
theorem vr_Diagrams_unlike {K : PySem.W.Frag} (vs H Q E) (h : sp_Diagrams_unlike K w P vs H Q E) : (rd_Diagrams_unlike K w P) { nx := fun _ H' => Q .non H', rt := Q } (start ["self", "one", "other"] vs) H := by
  obtain ⟨d, a, most, D, L, x0, y0, rfl, g, rm, ⟨hx, hy⟩, q⟩ := h
  unfold rd_Diagrams_unlike
  walk_at "zz"
  refine g.m (by decide +kernel) ?_
  walk_at "zz"
  rw [vi_min, vi_max]
  refine ⟨szl (by show 2 ≤ 1000; decide), fun p hp => ?_⟩
  have x := Ex.new (o := .tup ([min x0 y0, max x0 y0].map vi)) hp
  have g1 := g.ex x
  have s1 : (upd H p (.tup ([min x0 y0, max x0 y0].map vi))) p = some (.tup ([min x0 y0, max x0 y0].map vi)) := upd_same
  refine z_nil ?_
  change sp_Diagrams_p_whole K w P _ (upd H p (.tup ([min x0 y0, max x0 y0].map vi))) _ E0
  generalize upd H p (.tup ([min x0 y0, max x0 y0].map vi)) = H1 at x g1 s1 ⊢
  refine ⟨d, p, a, most, D, L, "unlike", [min x0 y0, max x0 y0], rfl, g1, rm, s1, .inl ⟨rfl, .inl rfl, fun k hk => ?_, Told.imp q x fun u => ?_⟩⟩
  · simp only [List.mem_cons, List.not_mem_nil, or_false] at hk
    rcases hk with rfl | rfl <;> omega
  · show (val D u (min x0 y0) != val D u (max x0 y0)) = _
    rcases Nat.le_total x0 y0 with h | h
    · rw [Nat.min_eq_left h, Nat.max_eq_right h]
    · rw [Nat.min_eq_right h, Nat.max_eq_left h]
      cases val D u x0 <;> cases val D u y0 <;> rfl
theorem vr_Diagrams_turned {K : PySem.W.Frag} (vs H Q E) (h : sp_Diagrams_turned K w P vs H Q E) : (rd_Diagrams_turned K w P) { nx := fun _ H' => Q .non H', rt := Q } (start ["self", "knot"] vs) H := by
  obtain ⟨d, a, most, D, L, x0, rfl, g, rm, hx, q⟩ := h
  unfold rd_Diagrams_turned
  walk_at "zz"
  refine g.m (by decide +kernel) ?_
  walk_at "zz"
  rw [show V.int (if (1 : Int) < (x0 : Int) then (1 : Int) else (x0 : Int)) = vi (min x0 1) from vi_min (y := 1), show V.int (if (1 : Int) > (x0 : Int) then (1 : Int) else (x0 : Int)) = vi (max x0 1) from vi_max (y := 1)]
  refine ⟨szl (by show 2 ≤ 1000; decide), fun p hp => ?_⟩
  have x := Ex.new (o := .tup ([min x0 1, max x0 1].map vi)) hp
  have g1 := g.ex x
  have s1 : (upd H p (.tup ([min x0 1, max x0 1].map vi))) p = some (.tup ([min x0 1, max x0 1].map vi)) := upd_same
  refine z_nil ?_
  change sp_Diagrams_p_whole K w P _ (upd H p (.tup ([min x0 1, max x0 1].map vi))) _ E0
  generalize upd H p (.tup ([min x0 1, max x0 1].map vi)) = H1 at x g1 s1 ⊢
  refine ⟨d, p, a, most, D, L, "unlike", [min x0 1, max x0 1], rfl, g1, rm, s1, .inl ⟨rfl, .inl rfl, fun k hk => ?_, Told.imp q x fun u => ?_⟩⟩
  · simp only [List.mem_cons, List.not_mem_nil, or_false] at hk
    rcases hk with rfl | rfl <;> omega
  · show (val D u (min x0 1) != val D u (max x0 1)) = _
    rcases Nat.le_total x0 1 with h | h
    · rw [Nat.min_eq_left h, Nat.max_eq_right h, val1]
      cases val D u x0 <;> rfl
    · rw [Nat.min_eq_right h, Nat.max_eq_left h, val1]
      cases val D u x0 <;> rfl
theorem vr_Diagrams_chosen {K : PySem.W.Frag} (vs H Q E) (h : sp_Diagrams_chosen K w P vs H Q E) : (rd_Diagrams_chosen K w P) { nx := fun _ H' => Q .non H', rt := Q } (start ["self", "test", "one", "other"] vs) H := by
  obtain ⟨d, a, most, D, L, t0, x0, y0, rfl, g, rm, ⟨ht, hx, hy⟩, q⟩ := h
  unfold rd_Diagrams_chosen
  walk_at "zz"
  refine g.m (by decide +kernel) ?_
  walk_at "zz"
  refine ⟨szl (by show 3 ≤ 1000; decide), fun p hp => ?_⟩
  have x := Ex.new (o := .tup ([t0, x0, y0].map vi)) hp
  have g1 := g.ex x
  have s1 : (upd H p (.tup ([t0, x0, y0].map vi))) p = some (.tup ([t0, x0, y0].map vi)) := upd_same
  refine z_nil ?_
  change sp_Diagrams_p_whole K w P _ (upd H p (.tup ([t0, x0, y0].map vi))) _ E0
  generalize upd H p (.tup ([t0, x0, y0].map vi)) = H1 at x g1 s1 ⊢
  refine ⟨d, p, a, most, D, L, "chosen", [t0, x0, y0], rfl, g1, rm, s1, .inl ⟨rfl, .inr rfl, fun k hk => ?_, Told.imp q x fun u => rfl⟩⟩
  simp only [List.mem_cons, List.not_mem_nil, or_false] at hk
  rcases hk with rfl | rfl | rfl <;> omega
theorem vr_Diagrams_choice {K : PySem.W.Frag} (vs H Q E) (h : sp_Diagrams_choice K w P vs H Q E) : (rd_Diagrams_choice K w P) { nx := fun _ H' => Q .non H', rt := Q } (start ["self", "bit", "low", "high"] vs) H := by
  obtain ⟨d, a, most, D, L, b0, l0, h0, rfl, g, rm, ⟨hb, hl, hh⟩, q⟩ := h
  unfold rd_Diagrams_choice
  walk_at "zz"
  refine g.m (by decide +kernel) ?_
  walk_at "zz"
  refine ⟨szl (by show 3 ≤ 1000; decide), fun p hp => ?_⟩
  have x := Ex.new (o := .tup ([b0, l0, h0].map vi)) hp
  have g1 := g.ex x
  have s1 : (upd H p (.tup ([b0, l0, h0].map vi))) p = some (.tup ([b0, l0, h0].map vi)) := upd_same
  refine z_nil ?_
  change sp_Diagrams_p_whole K w P _ (upd H p (.tup ([b0, l0, h0].map vi))) _ E0
  generalize upd H p (.tup ([b0, l0, h0].map vi)) = H1 at x g1 s1 ⊢
  exact ⟨d, p, a, most, D, L, "choice", [b0, l0, h0], rfl, g1, rm, s1, .inr ⟨rfl, b0, l0, h0, rfl, ⟨hb, hl, hh⟩, Told.imp q x fun u => rfl⟩⟩

abbrev WH : Nat := 4294967295
theorem wh_is : (1 : Int) * 2 ^ (32 : Int).toNat - 1 = ((WH : Nat) : Int) := by decide +kernel
theorem wh_bit {m : Nat} (h : m < 32) : WH.testBit m = true := by
  rw [show WH = 2 ^ 32 - 1 from rfl, Nat.testBit_two_pow_sub_one]
  exact decide_eq_true h
theorem bitT_ok {b : Nat} (hb : b < 5) : bitT b < 2 ^ 32 ∧ ∀ m, m < 32 → (bitT b).testBit m = wd m b := by
  have g : ∀ b ∈ List.range 5, bitT b < 2 ^ 32 ∧ ∀ m ∈ List.range 32, (bitT b).testBit m = wd m b := by decide +kernel
  obtain ⟨h1, h2⟩ := g b (List.mem_range.mpr hb)
  exact ⟨h1, fun m hm => h2 m (List.mem_range.mpr hm)⟩
theorem pr_at {H : Hp} {ps : List (Nat × Nat)} {qs : List Addr} {i : Nat} (hl : qs.length = ps.length) (hh : ∀ (i : Nat) q p, qs[i]? = some q → ps[i]? = some p → H q = some (.tup [vi p.1, vi p.2])) (hi : i < ps.length) :
    ∃ q p, qs[i]? = some q ∧ p ∈ ps ∧ H q = some (.tup [vi p.1, vi p.2]) := by
  have h1 := List.getElem?_eq_getElem (show i < qs.length by omega)
  have h2 := List.getElem?_eq_getElem hi
  exact ⟨_, _, h1, List.getElem_mem hi, hh i _ _ h1 h2⟩
theorem vr_L_made {K : PySem.W.Frag} (vs H Q E) (h : sp_L_made K w P vs H Q E) : (rd_L_made K w P) { nx := fun _ H' => Q .non H', rt := Q } (start ["_law_diagram", "_law_pairs", "_law_number", "_law_way", "_law_more", "_law_one", "_law_other", "_law_third", "_law_whole", "_law_due", "_law_low", "_law_high", "_law_place", "_law_k"] vs) H := by
  obtain ⟨d, rr, a, most, D, L, ps, n, rfl, g, ⟨fv, f1, f2⟩, hn, ⟨qs, ql, hr, hqs⟩, ⟨hp0, hp1⟩, hpr, q⟩ := h
  unfold rd_L_made
  walk_at "zz"
  refine ⟨szl (by show 2 ≤ 1000; decide), fun p1 n1 => ?_⟩
  have x1 := Ex.new (o := .tup [V.int (n % 8), .int (n / 8)]) n1
  refine z_gtup2 (st_of upd_same) ?_
  have g1 := g.ex x1
  have hr1 := x1 _ _ hr
  generalize upd H p1 (.tup [V.int (n % 8), .int (n / 8)]) = H1 at x1 g1 hr1 ⊢
  have mb := fun k : Nat => mixN_b (n / 8) (k : Int)
  have ll : (0 : Int) < (ps.length : Int) := by omega
  let ix : Nat → Nat := fun k => (mixN (n / 8) (k : Int) % (ps.length : Int)).toNat
  have ixl : ∀ k, ix k < ps.length := fun k => by
    have h1 := Int.emod_nonneg (mixN (n / 8) (k : Int)) (show (ps.length : Int) ≠ 0 by omega)
    have h2 := Int.emod_lt_of_pos (mixN (n / 8) (k : Int)) ll
    show (mixN (n / 8) (k : Int) % (ps.length : Int)).toNat < ps.length
    omega
  have ixe : ∀ k : Nat, mixN (n / 8) (k : Int) % (ps.length : Int) = ((ix k : Nat) : Int) := fun k => by
    have h1 := Int.emod_nonneg (mixN (n / 8) (k : Int)) (show (ps.length : Int) ≠ 0 by omega)
    show _ = (((mixN (n / 8) (k : Int) % (ps.length : Int)).toNat : Nat) : Int)
    omega
  walk_at "zz"
  refine z_CR1 ⟨by decide, by decide⟩ (fun _ => true) (fun k => .ref (qs.getD (ix k) 0)) (fun _ => rfl) (fun i H' hi e => fun H2 e2 Q' q' => q' _ (Ex.refl _)) (fun i H' hi e _ => fun H2 e2 Q' q' => ?_) (fun l H2 hl e2 h2 => ?_)
  · have i3 : i < 3 := hi
    have hr2 := e2 _ _ (e _ _ hr1)
    walk_at "zz"
    refine ⟨n / 8, i, rfl, ⟨by omega, by omega⟩, fun H3 e3 => ?_⟩
    have hr3 := e3 _ _ hr2
    walk_at "zz"
    refine z_lenL (sq_of hr3) ?_
    rw [List.length_map, ql]
    refine z_i ll ?_
    rw [ixe]
    refine z_ixL (sq_of hr3) (v := .ref (qs.getD (ix i) 0)) (atI_nat ?_) (q' _ e3)
    rw [List.getElem?_map, List.getD_eq_getElem?_getD, List.getElem?_eq_getElem (show ix i < qs.length by rw [ql]; exact ixl i)]
    rfl
  have h2 : H2 l = some (.lst [.ref (qs.getD (ix 0) 0), .ref (qs.getD (ix 1) 0), .ref (qs.getD (ix 2) 0)]) := h2
  have x2 := x1.trans e2
  have g2 := g1.ex e2
  have pk : ∀ k, ∃ p : Nat × Nat, PrOk D p ∧ H2 (qs.getD (ix k) 0) = some (.tup [vi p.1, vi p.2]) := fun k => by
    obtain ⟨q, p, h1, h3, h4⟩ := pr_at ql hqs (ixl k)
    rw [List.getD_eq_getElem?_getD, h1]
    exact ⟨p, hpr p h3, x2 _ _ h4⟩
  obtain ⟨p0, pr0, t0⟩ := pk 0
  obtain ⟨pA, prA, tA⟩ := pk 1
  obtain ⟨pB, prB, tB⟩ := pk 2
  generalize qs.getD (ix 0) 0 = a0 at t0 h2 ⊢
  generalize qs.getD (ix 1) 0 = aA at tA h2 ⊢
  generalize qs.getD (ix 2) 0 = aB at tB h2 ⊢

  refine ZO.z_gl3 (sq_of h2) ?_
  walk_at "zz"
  rw [wh_is]
  have fin : ∀ {H' D' L' r t} {f : (Nat → Bool) → Bool}, Dg K w P H' d a most D' L' → Mo D D' → Five D' → D'.length ≤ D.length + 31 → L'.length ≤ L.length + 31 → r < D'.length + 2 → (∀ u, val D' u r = f u) → But (dgL a) H2 H' → t < 2 ^ 32 → (∀ m, m < 32 → t.testBit m = f (wd m)) → ∀ p, H' p = none → Q (.ref p) (upd H' p (.tup [vi r, vi t])) := fun {H' D' L' r t f} g' M fv' l1 l2 r1 v b ht hf p np =>
    q _ D' L' p (r, t) (g'.ex (Ex.new np)) M fv' l1 l2 upd_same ⟨r1, ht, fun m hm => (hf m hm).trans (v _).symm⟩ ((But.ex x2).trans (b.trans (But.ex (Ex.new np))))
  have w8 : n % 8 = 0 ∨ n % 8 = 1 ∨ n % 8 = 2 ∨ n % 8 = 3 ∨ n % 8 = 4 ∨ n % 8 = 5 ∨ n % 8 = 6 ∨ n % 8 = 7 := by omega
  have m0 : 0 ≤ n / 8 := by omega
  generalize n % 8 = way at w8 ⊢
  generalize n / 8 = more at m0 ⊢
  obtain ⟨mo, rfl⟩ : ∃ mo : Nat, more = (mo : Int) := ⟨more.toNat, by omega⟩
  have b5 : ∃ b : Nat, b < 5 ∧ (mo : Int) % 5 = (b : Int) := ⟨((mo : Int) % 5).toNat, by omega, by omega⟩
  obtain ⟨b, b5, hb⟩ := b5
  rcases w8 with rfl | rfl | rfl | rfl | rfl | rfl | rfl | rfl
  · walk_at "zz"
    repeat (first | (rw [if_neg (by decide)]; walk_at "zz") | (rw [if_pos (by decide)]; walk_at "zz"))
    refine g2.m (by decide +kernel) ?_
    walk_at "zz"
    rw [hb]
    obtain ⟨M, len1, kr1, _, kv⟩ := kn_ok g.ok (fit01 D (show b < NO by show b < 1000000; omega))
    refine ⟨d, a, most, D, L, b, rfl, g2, by omega, .inl ⟨by omega, fun H3 g3 b3 => ?_⟩⟩
    walk_at "zz"
    rw [hb]
    refine ⟨b, rfl, b5, fun H4 e4 => ?_⟩
    walk_at "zz"
    refine ⟨szl (by show 2 ≤ 1000; decide), fun p np => ?_⟩
    exact fin (f := fun u => u b) (g3.ex e4) M (five_kn fv b5) (by omega) (by omega) kr1 (fun u => (kv u).trans (by show (if u b then val D u 1 else val D u 0) = u b; rw [val0, val1]; cases u b <;> rfl)) (b3.trans (But.ex e4)) (bitT_ok b5).1 (bitT_ok b5).2 p np
  · walk_at "zz"
    repeat (first | (rw [if_neg (by decide)]; walk_at "zz") | (rw [if_pos (by decide)]; walk_at "zz"))
    refine g2.m (by decide +kernel) ?_
    walk_at "zz"
    rw [hb]
    obtain ⟨M, len1, kr1, _, kv⟩ := kn_ok g.ok (fit01 D (show b < NO by show b < 1000000; omega))
    refine ⟨d, a, most, D, L, b, rfl, g2, by omega, .inl ⟨by omega, fun H3 g3 b3 => ?_⟩⟩
    walk_at "zz"
    rw [hb]
    refine ⟨b, rfl, b5, fun H4 e4 => ?_⟩
    walk_at "zz"
    refine ⟨szl (by show 2 ≤ 1000; decide), fun p np => ?_⟩
    exact fin (f := fun u => u b) (g3.ex e4) M (five_kn fv b5) (by omega) (by omega) kr1 (fun u => (kv u).trans (by show (if u b then val D u 1 else val D u 0) = u b; rw [val0, val1]; cases u b <;> rfl)) (b3.trans (But.ex e4)) (bitT_ok b5).1 (bitT_ok b5).2 p np
  · walk_at "zz"
    repeat (first | (rw [if_neg (by decide)]; walk_at "zz") | (rw [if_pos (by decide)]; walk_at "zz"))
    refine g2.m (by decide +kernel) ?_
    walk_at "zz"
    refine z_ixT (st_of t0) rfl ?_
    walk_at "zz"
    refine z_ixT (st_of tA) rfl ?_
    walk_at "zz"
    refine ⟨d, a, most, D, L, p0.1, pA.1, rfl, g2, ⟨fv, f1, f2⟩, ⟨pr0.1, prA.1⟩, fun H3 D3 L3 r g3 M fv3 l1 l2 r1 v bt => ?_⟩
    have t0 := bt _ _ (g2.tne t0) t0
    have tA := bt _ _ (g2.tne tA) tA
    walk_at "zz"
    refine z_ixT (st_of t0) rfl ?_
    walk_at "zz"
    refine z_ixT (st_of tA) rfl ?_
    walk_at "zz"
    rw [band_nat]
    refine ⟨szl (by show 2 ≤ 1000; decide), fun p np => ?_⟩
    exact fin g3 M fv3 l1 l2 r1 v bt (Nat.and_lt_two_pow _ prA.2.1) (fun m hm => by rw [Nat.testBit_and, pr0.2.2 m hm, prA.2.2 m hm]) p np
  · walk_at "zz"
    repeat (first | (rw [if_neg (by decide)]; walk_at "zz") | (rw [if_pos (by decide)]; walk_at "zz"))
    refine g2.m (by decide +kernel) ?_
    walk_at "zz"
    refine z_ixT (st_of t0) rfl ?_
    walk_at "zz"
    refine z_ixT (st_of tA) rfl ?_
    walk_at "zz"
    refine ⟨d, a, most, D, L, p0.1, pA.1, rfl, g2, ⟨fv, f1, f2⟩, ⟨pr0.1, prA.1⟩, fun H3 D3 L3 r g3 M fv3 l1 l2 r1 v bt => ?_⟩
    have t0 := bt _ _ (g2.tne t0) t0
    have tA := bt _ _ (g2.tne tA) tA
    walk_at "zz"
    refine z_ixT (st_of t0) rfl ?_
    walk_at "zz"
    refine z_ixT (st_of tA) rfl ?_
    walk_at "zz"
    rw [bor_nat]
    refine ⟨szl (by show 2 ≤ 1000; decide), fun p np => ?_⟩
    exact fin g3 M fv3 l1 l2 r1 v bt (Nat.or_lt_two_pow pr0.2.1 prA.2.1) (fun m hm => by rw [Nat.testBit_or, pr0.2.2 m hm, prA.2.2 m hm]) p np
  · walk_at "zz"
    repeat (first | (rw [if_neg (by decide)]; walk_at "zz") | (rw [if_pos (by decide)]; walk_at "zz"))
    refine g2.m (by decide +kernel) ?_
    walk_at "zz"
    refine z_ixT (st_of t0) rfl ?_
    walk_at "zz"
    refine z_ixT (st_of tA) rfl ?_
    walk_at "zz"
    refine ⟨d, a, most, D, L, p0.1, pA.1, rfl, g2, ⟨fv, f1, f2⟩, ⟨pr0.1, prA.1⟩, fun H3 D3 L3 r g3 M fv3 l1 l2 r1 v bt => ?_⟩
    have t0 := bt _ _ (g2.tne t0) t0
    have tA := bt _ _ (g2.tne tA) tA
    walk_at "zz"
    refine z_ixT (st_of t0) rfl ?_
    walk_at "zz"
    refine z_ixT (st_of tA) rfl ?_
    walk_at "zz"
    rw [bxor_nat]
    refine ⟨szl (by show 2 ≤ 1000; decide), fun p np => ?_⟩
    exact fin g3 M fv3 l1 l2 r1 v bt (Nat.xor_lt_two_pow pr0.2.1 prA.2.1) (fun m hm => by rw [Nat.testBit_xor, pr0.2.2 m hm, prA.2.2 m hm]) p np
  · walk_at "zz"
    repeat (first | (rw [if_neg (by decide)]; walk_at "zz") | (rw [if_pos (by decide)]; walk_at "zz"))
    refine g2.m (by decide +kernel) ?_
    walk_at "zz"
    refine z_ixT (st_of t0) rfl ?_
    walk_at "zz"
    refine ⟨d, a, most, D, L, p0.1, rfl, g2, ⟨fv, f1, f2⟩, pr0.1, fun H3 D3 L3 r g3 M fv3 l1 l2 r1 v bt => ?_⟩
    have t0 := bt _ _ (g2.tne t0) t0
    walk_at "zz"
    refine z_ixT (st_of t0) rfl ?_
    walk_at "zz"
    rw [bxor_nat]
    refine ⟨szl (by show 2 ≤ 1000; decide), fun p np => ?_⟩
    exact fin g3 M fv3 l1 l2 r1 v bt (Nat.xor_lt_two_pow pr0.2.1 (by decide)) (fun m hm => by rw [Nat.testBit_xor, pr0.2.2 m hm, wh_bit hm]; cases val D (wd m) p0.1 <;> rfl) p np
  · walk_at "zz"
    repeat (first | (rw [if_neg (by decide)]; walk_at "zz") | (rw [if_pos (by decide)]; walk_at "zz"))
    refine z_ixT (st_of t0) rfl ?_
    walk_at "zz"
    refine z_ixT (st_of tA) rfl ?_
    walk_at "zz"
    refine z_ixT (st_of t0) rfl ?_
    walk_at "zz"
    refine z_ixT (st_of tB) rfl ?_
    walk_at "zz"
    rw [bxor_nat, band_nat, band_nat, bor_nat]
    refine g2.m (by decide +kernel) ?_
    walk_at "zz"
    refine z_ixT (st_of t0) rfl ?_
    walk_at "zz"
    refine z_ixT (st_of tA) rfl ?_
    walk_at "zz"
    refine z_ixT (st_of tB) rfl ?_
    walk_at "zz"
    refine ⟨d, a, most, D, L, p0.1, pA.1, pB.1, rfl, g2, ⟨fv, f1, f2⟩, ⟨pr0.1, prA.1, prB.1⟩, fun H3 D3 L3 r g3 M fv3 l1 l2 r1 v bt => ?_⟩
    walk_at "zz"
    refine ⟨szl (by show 2 ≤ 1000; decide), fun p np => ?_⟩
    exact fin g3 M fv3 l1 l2 r1 v bt (Nat.or_lt_two_pow (Nat.and_lt_two_pow _ prA.2.1) (Nat.and_lt_two_pow _ prB.2.1)) (fun m hm => by rw [Nat.testBit_or, Nat.testBit_and, Nat.testBit_and, Nat.testBit_xor, pr0.2.2 m hm, prA.2.2 m hm, prB.2.2 m hm, wh_bit hm]; cases val D (wd m) p0.1 <;> cases val D (wd m) pA.1 <;> cases val D (wd m) pB.1 <;> rfl) p np
  · walk_at "zz"
    repeat (first | (rw [if_neg (by decide)]; walk_at "zz") | (rw [if_pos (by decide)]; walk_at "zz"))
    refine ⟨szl (by show 2 ≤ 1000; decide), fun pa npa => ?_⟩
    have y1 := Ex.new (o := .tup [V.int 0, V.int 0]) npa
    have spa : (upd H2 pa (.tup [V.int 0, V.int 0])) pa = some (.tup [V.int 0, V.int 0]) := upd_same
    generalize upd H2 pa (.tup [V.int 0, V.int 0]) = H3 at y1 spa  ⊢
    walk_at "zz"
    refine ⟨szl (by show 2 ≤ 1000; decide), fun pb npb => ?_⟩
    have y2 := Ex.new (o := .tup [V.int 1, V.int ((WH : Nat) : Int)]) npb
    have spb : (upd H3 pb (.tup [V.int 1, V.int ((WH : Nat) : Int)])) pb = some (.tup [V.int 1, V.int ((WH : Nat) : Int)]) := upd_same
    have spa := y2 _ _ spa
    generalize upd H3 pb (.tup [V.int 1, V.int ((WH : Nat) : Int)]) = H4 at y2 spb spa ⊢
    walk_at "zz"
    refine ⟨szl (by show 2 ≤ 1000; decide), fun lA nlA => ?_⟩
    have y3 := Ex.new (o := .lst [V.ref pa, V.ref pb]) nlA
    have slA : (upd H4 lA (.lst [V.ref pa, V.ref pb])) lA = some (.lst [V.ref pa, V.ref pb]) := upd_same
    have spa := y3 _ _ spa
    have spb := y3 _ _ spb
    generalize upd H4 lA (.lst [V.ref pa, V.ref pb]) = H5 at y3 slA spa spb ⊢
    walk_at "zz"
    have prZ : PrOk D (0, 0) := ⟨by show 0 < _; omega, by decide, fun m hm => by rw [val0]; exact Nat.zero_testBit m⟩
    have prO : PrOk D (1, WH) := ⟨by show 1 < _; omega, by decide, fun m hm => by rw [val1]; exact wh_bit hm⟩
    have lo : ∃ al, ∃ pl : Nat × Nat, atI [V.ref pa, V.ref pb] ((mo : Int) % 2) = some (.ref al) ∧ PrOk D pl ∧ H5 al = some (.tup [vi pl.1, vi pl.2]) := by
      have : (mo : Int) % 2 = 0 ∨ (mo : Int) % 2 = 1 := by omega
      rcases this with e | e <;> rw [e]
      · exact ⟨pa, (0, 0), rfl, prZ, spa⟩
      · exact ⟨pb, (1, WH), rfl, prO, spb⟩
    obtain ⟨al, pl, il, prl, tl⟩ := lo
    refine z_ixL (sq_of slA) il ?_
    walk_at "zz"
    refine ⟨szl (by show 2 ≤ 1000; decide), fun pc npc => ?_⟩
    have y4 := Ex.new (o := .tup [V.int 1, V.int ((WH : Nat) : Int)]) npc
    have spc : (upd H5 pc (.tup [V.int 1, V.int ((WH : Nat) : Int)])) pc = some (.tup [V.int 1, V.int ((WH : Nat) : Int)]) := upd_same
    have tl := y4 _ _ tl
    generalize upd H5 pc (.tup [V.int 1, V.int ((WH : Nat) : Int)]) = H6 at y4 spc tl ⊢
    walk_at "zz"
    refine ⟨szl (by show 2 ≤ 1000; decide), fun pd npd => ?_⟩
    have y5 := Ex.new (o := .tup [V.int 0, V.int 0]) npd
    have spd : (upd H6 pd (.tup [V.int 0, V.int 0])) pd = some (.tup [V.int 0, V.int 0]) := upd_same
    have tl := y5 _ _ tl
    have spc := y5 _ _ spc
    generalize upd H6 pd (.tup [V.int 0, V.int 0]) = H7 at y5 spd tl spc ⊢
    walk_at "zz"
    refine ⟨szl (by show 2 ≤ 1000; decide), fun lB nlB => ?_⟩
    have y6 := Ex.new (o := .lst [V.ref pc, V.ref pd]) nlB
    have slB : (upd H7 lB (.lst [V.ref pc, V.ref pd])) lB = some (.lst [V.ref pc, V.ref pd]) := upd_same
    have tl := y6 _ _ tl
    have spc := y6 _ _ spc
    have spd := y6 _ _ spd
    generalize upd H7 lB (.lst [V.ref pc, V.ref pd]) = H8 at y6 slB tl spc spd ⊢
    walk_at "zz"
    have hi : ∃ ah, ∃ ph : Nat × Nat, atI [V.ref pc, V.ref pd] ((mo : Int) / 2 % 2) = some (.ref ah) ∧ PrOk D ph ∧ H8 ah = some (.tup [vi ph.1, vi ph.2]) := by
      have : (mo : Int) / 2 % 2 = 0 ∨ (mo : Int) / 2 % 2 = 1 := by omega
      rcases this with e | e <;> rw [e]
      · exact ⟨pc, (1, WH), rfl, prO, spc⟩
      · exact ⟨pd, (0, 0), rfl, prZ, spd⟩
    obtain ⟨ah, ph, ih, prh, th⟩ := hi
    refine z_ixL (sq_of slB) ih ?_
    walk_at "zz"
    have x8 : Ex H2 H8 := y1.trans (y2.trans (y3.trans (y4.trans (y5.trans y6))))
    have g8 := g2.ex x8
    refine ⟨_, _, rfl, ?_⟩
    clear y1 y2 y3 y4 y5 y6
    walk_at "zz"
    obtain ⟨b2, b25, hb2⟩ : ∃ b2 : Nat, b2 < 5 ∧ (mo : Int) / 4 % 5 = (b2 : Int) := ⟨((mo : Int) / 4 % 5).toNat, by omega, by omega⟩
    rw [hb2]
    refine z_ixT (st_of th) rfl ?_
    walk_at "zz"
    refine ⟨b2, rfl, b25, fun H9 e9 => ?_⟩
    have th := e9 _ _ th
    have tl := e9 _ _ tl
    walk_at "zz"
    refine z_ixT (st_of tl) rfl ?_
    walk_at "zz"
    refine ⟨b2, rfl, b25, fun HA eA => ?_⟩
    have th := eA _ _ th
    have tl := eA _ _ tl
    have gA := (g8.ex e9).ex eA
    have xA := (x8.trans e9).trans eA
    walk_at "zz"
    rw [bxor_nat, band_nat, band_nat, bor_nat]
    refine gA.m (by decide +kernel) ?_
    walk_at "zz"
    refine z_ixT (st_of tl) rfl ?_
    walk_at "zz"
    refine z_ixT (st_of th) rfl ?_
    walk_at "zz"
    refine ⟨d, a, most, D, L, b2, pl.1, ph.1, rfl, gA, ⟨fv, f1, f2⟩, ⟨b25, prl.1, prh.1⟩, fun HB DB LB r gB M fvB l1 l2 r1 v bt => ?_⟩
    walk_at "zz"
    refine ⟨szl (by show 2 ≤ 1000; decide), fun p np => ?_⟩
    obtain ⟨bt1, bt2⟩ := bitT_ok b25
    exact fin gB M fvB l1 l2 r1 v ((But.ex xA).trans bt) (Nat.or_lt_two_pow (Nat.and_lt_two_pow _ bt1) (Nat.and_lt_two_pow _ (Nat.xor_lt_two_pow bt1 (by decide)))) (fun m hm => by
      rw [Nat.testBit_or, Nat.testBit_and, Nat.testBit_and, Nat.testBit_xor, prl.2.2 m hm, prh.2.2 m hm, bt2 m hm, wh_bit hm]
      cases val D (wd m) pl.1 <;> cases val D (wd m) ph.1 <;> cases wd m b2 <;> rfl) p np
theorem maskI (i : Int) (w : Nat) : Builtin.bitAnd i (1 * 2 ^ ((w : Nat) : Int).toNat - 1) = i % 2 ^ w := by
  rw [Int.one_mul, Int.toNat_natCast]
  exact PySem.W.kbt_mask i w

def wv (m z i : Nat) : Nat := (m % 2 ^ z) ||| (i * 2 ^ z)
theorem wv_ok {m z i : Nat} (hm : m < 32) (hz : z < 6) (hi : i < 32 / 2 ^ z) : wv m z i < 32 ∧ ∀ b, b < z → wd (wv m z i) b = wd m b := by
  constructor
  · refine Nat.or_lt_two_pow (n := 5) (Nat.lt_of_le_of_lt (Nat.mod_le _ _) hm) ?_
    have : z = 0 ∨ z = 1 ∨ z = 2 ∨ z = 3 ∨ z = 4 ∨ z = 5 := by omega
    rcases this with rfl | rfl | rfl | rfl | rfl | rfl <;> omega
  · intro b hb
    show (wv m z i).testBit b = m.testBit b
    unfold wv
    rw [Nat.testBit_or, Nat.testBit_mod_two_pow, decide_eq_true hb, Bool.true_and, ← Nat.shiftLeft_eq, Nat.testBit_shiftLeft, decide_eq_false (by omega), Bool.false_and, Bool.or_false]
theorem bits_small {i : Nat} (h : i < 33) : Builtin.Int.intBits (i : Int) ≤ 6 := by
  have g : ∀ i ∈ List.range 33, Builtin.Int.intBits ((i : Nat) : Int) ≤ 6 := by decide +kernel
  exact g i (List.mem_range.mpr h)
theorem vr_L_right {K : PySem.W.Frag} (vs H Q E) (h : sp_L_right K w P vs H Q E) : (rd_L_right K w P) { nx := fun _ H' => Q .non H', rt := Q } (start ["_law_diagram", "_law_knot", "_law_truths", "_law_number", "_law_word_here", "_law_due", "_law_size", "_law_after", "_law_some", "_law_high", "_law_one"] vs) H := by
  obtain ⟨d, a, most, D, L, k, t, n, rfl, g, fv, pr, hn, q⟩ := h
  unfold rd_L_right
  walk_at "zz"
  refine z_isi (T := "int") (U := "int") (b := true) (.base (.int _)) (kit_ty (by decide +kernel)) (z_trub (ite_f ?_))
  walk_at "zz"
  refine z_isi (T := "int") (U := "bool") (b := false) (.base (.int _)) (kit_ty (by decide +kernel)) (z_trub (ite_f ?_))
  walk_at "zz"
  obtain ⟨m, hm, em⟩ : ∃ m : Nat, m < 32 ∧ n % 32 = (m : Int) := ⟨(n % 32).toNat, by omega, by omega⟩
  rw [em]
  refine g.m (by decide +kernel) ?_
  walk_at "zz"
  refine ⟨d, a, most, D, L, k, m, rfl, g, pr.1, fun H1 e1 => ?_⟩
  have g1 := g.ex e1
  walk_at "zz"
  refine z_i (show (0 : Int) ≤ (m : Int) by omega) ?_
  walk_at "zz"
  rw [shr_and, pr.2.2 m hm]
  walk_at "zz"
  rw [decide_eq_true rfl]
  refine ite_f ?_
  walk_at "zz"
  refine z_CR1 ⟨by decide, by decide⟩ (fun i => t.testBit i) (fun i => vi i) (fun _ => rfl) (fun i H' hi e => fun H2 e2 Q' q' => ?_) (fun i H' hi e _ => fun H2 e2 Q' q' => ?_) (fun l5 H2 n5 e2 h5 => ?_)
  · walk_at "zz"
    refine z_i (show (0 : Int) ≤ (i : Int) by omega) ?_
    walk_at "zz"
    rw [shr_and, one_is]
    exact q' _ (Ex.refl _)
  · walk_at "zz"
    exact q' _ (Ex.refl _)
  have g2 := g1.ex e2
  walk_at "zz"
  refine g2.m (by decide +kernel) ?_
  walk_at "zz"
  refine ⟨d, a, most, D, L, k, rfl, g2, pr.1, fun H3 e3 => ?_⟩
  have g3 := g2.ex e3
  have h5 := e3 _ _ h5
  have x3 := (e1.trans e2).trans e3
  walk_at "zz"
  have l5m := least5 g.ok fv pr
  have rest : ∀ H4, Ex H H4 → (tSeq (tAsg (tOp rModI (tOp rDivI (tVar 3) (tC (.int 32))) (tC (.int 6))) (gName 6))
    (tSeq (tAsg (tMeth (He.ga K "Diagrams") "beyond" (sp_Diagrams_beyond K w P) [] E0 (tVar 0) (tCons (tVar 1) (tCons (tVar 6) (tCons (tVar 4) tNil)))) (gName 7))
    (tSeq (tAsg (tLc (iRng1 (tCons (tOp rShrI (tC (.int 32)) (tVar 6)) tNil)) (gName 9) tYes (tOp rOrI (tOp rAndI (tVar 4) (tOp rSubI (tOp rShlI (tC (.int 1)) (tVar 6)) (tC (.int 1)))) (tOp rShlI (tVar 9) (tVar 6))) [9]) (gName 8))
    (tRet (tOp (rEqD K) (tLc (iList K (tVar 8)) (gName 10) tYes (tMeth (He.ga K "Diagrams") "told" (sp_Diagrams_told K w P) [] E0 (tVar 0) (tCons (tVar 7) (tCons (tVar 10) tNil))) [10]) (tLc (iList K (tVar 8)) (gName 10) tYes (tOp rAndI (tOp rShrI (tVar 2) (tVar 10)) (tC (.int 1))) [10])))))) { nx := fun _ H' => Q .non H', rt := Q } ((List.set (start ["_law_diagram", "_law_knot", "_law_truths", "_law_number", "_law_word_here", "_law_due", "_law_size", "_law_after", "_law_some", "_law_high", "_law_one"] [.ref d, vi k, vi t, .int n]) 4 (some (.int (m : Int)))).set 5 (some (.ref l5))) H4 := fun H4 e4 => by
    clear l5m h5 x3 g3 g2 g1 e3 e2 e1 n5
    have g4 := g.ex e4
    obtain ⟨z, hz, ez⟩ : ∃ z : Nat, z < 6 ∧ n / 32 % 6 = (z : Int) := ⟨(n / 32 % 6).toNat, by omega, by omega⟩
    walk_at "zz"
    rw [ez]
    refine g4.m (by decide +kernel) ?_
    walk_at "zz"
    refine ⟨d, a, most, D, L, k, z, m, rfl, g4, pr.1, by show z ≤ 1000000; omega, fun H5 r hr _ hv e5 => ?_⟩
    have g5 := g4.ex e5
    walk_at "zz"
    refine z_i (show (0 : Int) ≤ (z : Int) by omega) ?_
    have s32 : (32 : Int) / 2 ^ ((z : Int)).toNat = ((32 / 2 ^ z : Nat) : Int) := shr_nat 32 z
    rw [s32]
    walk_at "zz"
    have le32 : 32 / 2 ^ z ≤ 32 := Nat.div_le_self _ _
    refine z_CR1 (m := ((32 / 2 ^ z : Nat) : Int)) ⟨Int.natCast_nonneg _, Int.le_trans (Int.ofNat_le.mpr le32) (by decide)⟩ (fun _ => true) (fun i => vi (wv m z i)) (fun _ => rfl) (fun i H' hi e => fun H2 e2 Q' q' => q' _ (Ex.refl _)) (fun i H' hi e _ => fun H2 e2 Q' q' => ?_) (fun l8 H6 n8 e6 h8 => ?_)
    · rw [Int.toNat_natCast] at hi
      walk_at "zz"
      refine z_i (shl1 (by omega)) ?_
      walk_at "zz"
      rw [maskI]
      have bs := bits_small (i := i) (by omega)
      refine z_i (show CShl (i : Int) (z : Int) from ⟨by omega, by omega⟩) ?_
      walk_at "zz"
      have e1 : (m : Int) % 2 ^ z = ((m % 2 ^ z : Nat) : Int) := by rw [pow_cast]; exact_mod_cast rfl
      have e2 : (i : Int) * 2 ^ ((z : Int)).toNat = ((i * 2 ^ z : Nat) : Int) := by rw [Int.toNat_natCast, pow_cast]; exact_mod_cast rfl
      rw [e1, e2, bor_nat]
      exact q' _ (Ex.refl _)
    rw [Int.toNat_natCast, given_all] at h8
    have g6 := g5.ex e6
    have at8 : ∀ {i : Nat} {x : V}, ((List.range (32 / 2 ^ z)).map fun i => vi (wv m z i))[i]? = some x → i < 32 / 2 ^ z ∧ x = vi (wv m z i) := fun {i x} h => by
      rw [List.getElem?_map] at h
      obtain ⟨j, h1, h2⟩ := Option.map_eq_some_iff.mp h
      obtain ⟨h3, h4⟩ := List.getElem?_eq_some_iff.mp h1
      rw [List.length_range] at h3
      rw [List.getElem_range] at h4
      subst h4
      exact ⟨h3, h2.symm⟩
    walk_at "zz"
    refine z_CL (sq_of h8) (by rw [List.length_map, List.length_range]; omega) (fun _ => true) (fun i => vi (t.testBit (wv m z i)).toNat) (fun _ => rfl) (fun i x H' hi ex e => fun H2 e2 Q' q' => q' _ (Ex.refl _)) (fun i x H' hi ex e _ => fun Hb eb Q' q' => ?_) (fun lA HA nA eA hA => ?_)
    · obtain ⟨h3, rfl⟩ := at8 ex
      obtain ⟨w1, w2⟩ := wv_ok hm hz h3
      have gb := (g6.ex e).ex eb
      walk_at "zz"
      refine gb.m (by decide +kernel) ?_
      walk_at "zz"
      refine ⟨d, a, most, D, L, r, wv m z i, rfl, gb, hr, fun Hc ec => ?_⟩
      rw [hv (wd (wv m z i)) w2, ← pr.2.2 _ w1]
      exact q' _ ec
    have gA := g6.ex eA
    have h8A := eA _ _ h8
    walk_at "zz"
    refine z_CL (sq_of h8A) (by rw [List.length_map, List.length_range]; omega) (fun _ => true) (fun i => vi (t.testBit (wv m z i)).toNat) (fun _ => rfl) (fun i x H' hi ex e => fun H2 e2 Q' q' => q' _ (Ex.refl _)) (fun i x H' hi ex e _ => fun Hb eb Q' q' => ?_) (fun lB HB nB eB hB => ?_)
    · obtain ⟨h3, rfl⟩ := at8 ex
      walk_at "zz"
      refine z_i (show (0 : Int) ≤ ((wv m z i : Nat) : Int) by omega) ?_
      walk_at "zz"
      rw [shr_and]
      exact q' _ (Ex.refl _)
    have hA := eB _ _ hA
    rw [given_all, List.length_map, List.length_range] at hA hB
    have eqs : ((List.range (32 / 2 ^ z)).map fun i => vi (t.testBit (wv m z i)).toNat) = ((List.range (32 / 2 ^ z)).map fun i => ((t.testBit (wv m z i)).toNat : Int)).map V.int := by rw [List.map_map]; rfl
    rw [eqs] at hA hB
    refine z_eqD (b := true) (.lst (sq_of hA) (dp_ints _)) (.lst (sq_of hB) (dp_ints _)) (cl_ints _) (cl_ints _) (by show PyData.depthAll _ + 1 ≤ 64; rw [depth_ints]; decide) (by show PyData.depthAll _ + 1 ≤ 64; rw [depth_ints]; decide) ⟨fun _ => rfl, fun _ => rfl⟩ ?_
    exact q HB ((e4.trans e5).trans (e6.trans (eA.trans eB)))
  have mem : ∀ j, t.testBit j = true → j < 32 → (j : Int) ∈ ((List.range 32).filter fun i => t.testBit i).map fun i : Nat => (i : Int) := fun j hj h32 => List.mem_map.mpr ⟨j, List.mem_filter.mpr ⟨List.mem_range.mpr h32, hj⟩, rfl⟩
  refine ⟨l5, ((List.range 32).filter fun i => t.testBit i).map fun i : Nat => (i : Int), .non, rfl, rfl, sq_of (by rw [h5]; unfold Evl.given; rw [List.map_map]; rfl), fun e0 => ?_, fun mm hmm hle => ?_⟩
  · have no : wy D k = none := by
      cases ew : wy D k with
      | none => rfl
      | some y =>
        rw [ew] at l5m
        have := mem y l5m.2.1 l5m.1
        rw [e0] at this
        cases this
    rw [no]
    refine z_neD (b := true) (d := .none) (e := .none) .non .non rfl rfl (by decide) (by decide) ⟨fun _ => rfl, fun _ => rfl⟩ ?_
    walk_at "zz"
    refine ite_f ?_
    refine z_next ?_
    exact rest _ x3
  · obtain ⟨j, hj, rfl⟩ := List.mem_map.mp hmm
    obtain ⟨hj1, hj2⟩ := List.mem_filter.mp hj
    have hj1 := List.mem_range.mp hj1
    have so : wy D k = some j := by
      cases ew : wy D k with
      | none =>
        rw [ew] at l5m
        rw [l5m j hj1] at hj2
        cases hj2
      | some y =>
        rw [ew] at l5m
        have h1 := hle _ (mem y l5m.2.1 l5m.1)
        have h2 := l5m.2.2 j hj1 hj2
        rw [show y = j by omega]
    rw [so]
    refine z_neD (b := true) (d := .int j) (e := .int j) (.int _) (.int _) rfl rfl (by show 0 ≤ 64; decide) (by show 0 ≤ 64; decide) ⟨fun _ => rfl, fun _ => rfl⟩ ?_
    walk_at "zz"
    refine ite_f ?_
    refine z_next ?_
    exact rest _ x3

theorem exB {H Hs Hi : Hp} {B : List Addr} (e : Ex H Hs) (f : ∀ b ∈ B, H b = none) (b : But B Hs Hi) : Ex H Hi := fun c u h => b c u (fun z => by rw [f c z] at h; cases h) (e c u h)
def bd (i : Nat) : List Nd := (List.range i).map fun b => ⟨b, 0, 1⟩
theorem bd_len (i : Nat) : (bd i).length = i := by simp [bd]
theorem bd_mem {i b : Nat} : (⟨b, 0, 1⟩ : Nd) ∈ bd i ↔ b < i := by
  unfold bd
  constructor
  · intro h
    obtain ⟨c, h1, h2⟩ := List.mem_map.mp h
    injection h2 with h2
    rw [← h2]
    exact List.mem_range.mp h1
  · intro h
    exact List.mem_map.mpr ⟨b, List.mem_range.mpr h, rfl⟩
theorem bd_kn (i : Nat) : kn (bd i) ⟨i, 0, 1⟩ = bd (i + 1) := by
  unfold kn
  rw [if_neg (fun z => z.elim (fun z => by cases z) fun z => absurd (bd_mem.mp z) (Nat.lt_irrefl _))]
  unfold bd
  rw [List.range_succ, List.map_append]
  rfl
theorem bd_kn0 {i : Nat} (h : 0 < i) : kn (bd i) ⟨0, 0, 1⟩ = bd i := by
  unfold kn
  rw [if_pos (.inr (bd_mem.mpr h))]
/-- a new diagram's heap -/
theorem new_dg {H H' : Hp} {x dx : Addr} {C : Addr} (hx : H x = none) (hdx : H dx = none) (hne : dx ≠ x) {B : List Addr} (f : ∀ b ∈ B, (upd (upd H dx (.own x)) x (.ins C dx [])) b = none) (b : But [x] (upd (upd H dx (.own x)) x (.ins C dx [])) H') : Ex H H' ∧ ∀ b ∈ B, H b = none := by
  refine ⟨fun c u h => ?_, fun c hc => ?_⟩
  · have cx : c ≠ x := fun z => by rw [z, hx] at h; cases h
    have cd : c ≠ dx := fun z => by rw [z, hdx] at h; cases h
    exact b c u (by simp [cx]) (by rw [upd_ne cx, upd_ne cd]; exact h)
  · have h := f c hc
    have cx : c ≠ x := fun z => by rw [z, upd_same] at h; cases h
    have cd : c ≠ dx := fun z => by rw [z, upd_ne hne, upd_same] at h; cases h
    rw [upd_ne cx, upd_ne cd] at h
    exact h
theorem vr_L_full {K : PySem.W.Frag} (kx : ZZ.Kinds K ["TooMany"] ["TooMany", "BadNet", "BadDoors"]) (m_TooMany_YardError : PySem.W.exmOne K (.ref (He.ga K "TooMany")) (.ref (He.ga K "YardError")) = some true) (vs H Q E) (h : sp_L_full vs H Q E) : (rd_L_full K w P) { nx := fun _ H' => Q .non H', rt := Q } (start ["_law_most", "_law_diagram", "_law_place", "_law_turn", "_law_error", "e"] vs) H := by
  obtain ⟨m, rfl, ⟨m1, m9⟩, q⟩ := h
  unfold rd_L_full
  walk_at "zz"
  intro d dx hd hdx hne
  refine ⟨d, dx, m, rfl, upd_same, by omega, fun Hs a g fr bt => ⟨rfl, ?_⟩⟩
  obtain ⟨es, fs⟩ := new_dg hd hdx hne fr bt
  walk_at "zz"
  refine z_FR1 (n := (m : Int)) ⟨by omega, by omega⟩ (fun i σ H' => (∃ v, σ = [some (vi m), some (.ref d), v, none, none, none]) ∧ Dg K w P H' d a m (bd i) [] ∧ But (dgL a) Hs H') ⟨⟨none, rfl⟩, g, But.refl⟩ (fun i σ H' hi hp => ?_) (fun σ H' hp => ?_)
  · obtain ⟨⟨v, rfl⟩, g1, b1⟩ := hp
    rw [Int.toNat_natCast] at hi
    walk_at "zz"
    refine g1.m (by decide +kernel) ?_
    walk_at "zz"
    refine ⟨d, a, m, bd i, [], i, rfl, g1, by omega, .inl ⟨by rw [bd_kn, bd_len]; omega, fun H2 g2 b2 => ?_⟩⟩
    rw [bd_kn] at g2
    walk_at "zz"
    exact ⟨⟨_, rfl⟩, g2, b1.trans b2⟩
  obtain ⟨⟨v, rfl⟩, g1, b1⟩ := hp
  rw [Int.toNat_natCast] at g1
  walk_at "zz"
  refine z_FR1 (n := 2) ⟨by decide, by decide⟩ (fun i σ H' => (∃ v3 v4 v5, σ = [some (vi m), some (.ref d), v, v3, v4, v5]) ∧ Dg K w P H' d a m (bd m) [] ∧ But (dgL a) Hs H') ⟨⟨_, _, _, rfl⟩, g1, b1⟩ (fun i σ H' hi hp => ?_) (fun σ H' hp => ?_)
  · obtain ⟨⟨v3, v4, v5, rfl⟩, g1, b1⟩ := hp
    walk_at "zz"
    refine ZZ.z_try ?_
    walk_at "zz"
    obtain ⟨dx1, i1⟩ := g1.ins
    refine ⟨d, dx1, _, rfl, i1, lk_none (show (dgN.all _) = true by decide +kernel), ?_⟩
    walk_at "zz"
    refine ⟨d, a, m, bd m, [], m, rfl, g1, by omega, .inr ⟨fun z => absurd (bd_mem.mp z) (Nat.lt_irrefl _), bd_len m, fun H2 e2 => ?_⟩⟩
    refine ⟨true, m_TooMany_YardError, fun _ ex ha => ?_, fun h => by cases h⟩
    walk_at "zz"
    intro hna
    have hex : (upd H2 ex (ZE.ExT (.ref (He.ga K "TooMany")) none ex)) ex = some (ZE.ExT (.ref (He.ga K "TooMany")) none ex) := upd_same
    have e3 := e2.trans (Ex.new (o := ZE.ExT (.ref (He.ga K "TooMany")) none ex) ha)
    generalize upd H2 ex (ZE.ExT (.ref (He.ga K "TooMany")) none ex) = H3 at hex e3 ⊢
    walk_at "zz"
    refine ZZ.z_isX kx (List.mem_singleton_self _) (by decide +kernel) hex ?_
    rw [show decide (("TooMany" : Str) = "TooMany") = true by decide +kernel]
    refine z_trub (ite_f ?_)
    walk_at "zz"
    refine ZZ.z_isX kx (List.mem_singleton_self _) (by decide +kernel) hex ?_
    rw [show decide (("TooMany" : Str) = "BadNet") = false by decide +kernel]
    refine z_trub (ite_f ?_)
    walk_at "zz"
    refine ZZ.z_isX kx (List.mem_singleton_self _) (by decide +kernel) hex ?_
    rw [show decide (("TooMany" : Str) = "BadDoors") = false by decide +kernel]
    refine z_trub ?_
    refine ite_f ?_
    walk_at "zz"
    exact ⟨⟨_, _, _, rfl⟩, g1.ex e3, b1.trans (But.ex e3)⟩
  obtain ⟨⟨v3, v4, v5, rfl⟩, g1, b1⟩ := hp
  walk_at "zz"
  refine g1.m (by decide +kernel) ?_
  walk_at "zz"
  refine ⟨d, a, m, bd m, [], rfl, g1, fun H2 e2 => ?_⟩
  have g2 := g1.ex e2
  walk_at "zz"
  rw [bd_len, vi_eq, decide_eq_true rfl]
  walk_at "zz"
  refine g2.m (by decide +kernel) ?_
  walk_at "zz"
  refine g2.m (by decide +kernel) ?_
  walk_at "zz"
  obtain ⟨M, len1, kr1, _, kv⟩ := kn_ok g2.ok (fit01 (bd m) (b := 0) (by decide))
  refine ⟨d, a, m, bd m, [], 0, rfl, g2, by decide, .inl ⟨by rw [bd_kn0 m1, bd_len]; omega, fun H3 g3 b3 => ?_⟩⟩
  walk_at "zz"
  refine ⟨d, a, m, kn (bd m) ⟨0, 0, 1⟩, [], kr (bd m) ⟨0, 0, 1⟩, 1, rfl, g3, kr1, fun H4 e4 => ?_⟩
  have v1 : val (kn (bd m) ⟨0, 0, 1⟩) (wd 1) (kr (bd m) ⟨0, 0, 1⟩) = true := by
    rw [kv]
    show (if wd 1 0 = true then val (bd m) (wd 1) 1 else val (bd m) (wd 1) 0) = true
    rw [val1]
    rfl
  rw [v1]
  walk_at "zz"
  exact q H4 (exB es fs (b1.trans ((But.ex e2).trans (b3.trans (But.ex e4)))))

theorem nodup_lt : ∀ (n : Nat) (l : List Nat), l.Nodup → (∀ x ∈ l, x < n) → l.length ≤ n
  | 0, l, _, h => by
    cases l with
    | nil => exact Nat.le_refl _
    | cons x l => exact absurd (h x (List.mem_cons_self ..)) (Nat.not_lt_zero _)
  | n + 1, l, nd, h => by
    by_cases m : n ∈ l
    · have i := nodup_lt n (l.erase n) (nd.erase n) (fun x hx => by
        obtain ⟨h1, h2⟩ := (nd.mem_erase_iff).mp hx
        have := h x h2
        omega)
      have := List.length_erase_of_mem m
      have := List.length_pos_of_mem m
      omega
    · have i := nodup_lt n l nd (fun x hx => by
        have := h x hx
        have : x ≠ n := fun z => m (z ▸ hx)
        omega)
      omega
theorem few_truths {D : List Nd} (ok : Ok D) (fv : Five D) {ps : List (Nat × Nat)} (hp : ∀ p ∈ ps, PrOk D p) {m : List Int} (nd : m.Nodup) (hm : ∀ x ∈ m, x ∈ ps.map fun p => (p.2 : Int)) : m.length ≤ D.length + 2 := by
  have ch : ∀ x : Int, ∃ k : Nat, (x ∈ m → ∃ p ∈ ps, p.1 = k ∧ (p.2 : Int) = x) := fun x => by
    by_cases h : x ∈ m
    · obtain ⟨p, h1, h2⟩ := List.mem_map.mp (hm x h)
      exact ⟨p.1, fun _ => ⟨p, h1, rfl, h2⟩⟩
    · exact ⟨0, fun z => absurd z h⟩
  let f : Int → Nat := fun x => Classical.choose (ch x)
  have hf : ∀ x ∈ m, ∃ p ∈ ps, p.1 = f x ∧ (p.2 : Int) = x := fun x hx => Classical.choose_spec (ch x) hx
  have h1 := nodup_lt (D.length + 2) (m.map f) ?_ ?_
  · rw [List.length_map] at h1
    exact h1
  · refine List.pairwise_map.mpr (List.Pairwise.imp_of_mem (fun {x y} hx hy ne e => ?_) nd)
    obtain ⟨p, p1, p2, p3⟩ := hf x hx
    obtain ⟨q, q1, q2, q3⟩ := hf y hy
    have := (pr_one ok fv (hp p p1) (hp q q1)).mp (p2.trans (e.trans q2.symm))
    exact ne (by rw [← p3, ← q3, this])
  · intro k hk
    obtain ⟨x, hx, rfl⟩ := List.mem_map.mp hk
    obtain ⟨p, p1, p2, p3⟩ := hf x hx
    rw [← p2]
    exact (hp p p1).1
/-- where things stand: two diagrams, their rows, the lists of both -/
structure Sepa (d r : Bool → Addr) (a : Bool → Nat → Addr) (ld lp : Addr) (H0 : Hp) : Prop where
  s1 : ∀ b, ∀ x ∈ dgL (a b), x ∉ dgL (a (!b))
  s2 : ∀ b c, r c ∉ dgL (a b)
  s3 : ∀ b, ld ∉ dgL (a b) ∧ lp ∉ dgL (a b)
  s4 : r false ≠ r true
  s5 : ∀ b, r b ≠ ld ∧ r b ≠ lp
  s6 : ∀ b, (∀ x ∈ dgL (a b), H0 x = none) ∧ H0 (r b) = none
structure Sta (K : PySem.W.Frag) (w : World) (P : Program) (H0 H : Hp) (d r : Bool → Addr) (a : Bool → Nat → Addr) (ld lp : Addr) (D : Bool → List Nd) (L : Bool → NL) (ps : Bool → List (Nat × Nat)) : Prop where
  g : ∀ b, Dg K w P H (d b) (a b) 2000 (D b) (L b)
  fv : ∀ b, Five (D b)
  pr : ∀ b, PrAt H (r b) (ps b)
  ok : ∀ b, ∀ p ∈ ps b, PrOk (D b) p
  ne : ∀ b, 0 < (ps b).length
  hl : H ld = some (.lst [.ref (d false), .ref (d true)])
  hp : H lp = some (.lst [.ref (r false), .ref (r true)])
  e : Ex H0 H
def set1 {α : Type} (f : Bool → α) (b : Bool) (v : α) : Bool → α := fun c => if c = b then v else f c
theorem set1_same {α : Type} {f : Bool → α} {b : Bool} {v : α} : set1 f b v b = v := if_pos rfl
theorem set1_ne {α : Type} {f : Bool → α} {b c : Bool} {v : α} (h : c ≠ b) : set1 f b v c = f c := if_neg h
theorem pr_but {H H' : Hp} {B : List Addr} {r : Addr} {ps : List (Nat × Nat)} (h : PrAt H r ps) (b : But B H H') (hr : r ∉ B) (ht : ∀ (p : Addr) xs, H p = some (.tup xs) → p ∉ B) : PrAt H' r ps := by
  obtain ⟨qs, h1, h2, h3⟩ := h
  exact ⟨qs, h1, b _ _ hr h2, fun i q p e1 e2 => b _ _ (ht _ _ (h3 i q p e1 e2)) (h3 i q p e1 e2)⟩
section
variable {H0 H : Hp} {d r : Bool → Addr} {a : Bool → Nat → Addr} {ld lp : Addr} {D : Bool → List Nd} {L : Bool → NL} {ps : Bool → List (Nat × Nat)}
theorem Sta.ex {H' : Hp} (s : Sta K w P H0 H d r a ld lp D L ps) (x : Ex H H') : Sta K w P H0 H' d r a ld lp D L ps :=
  ⟨fun b => (s.g b).ex x, s.fv, fun b => pr_but (s.pr b) (But.ex (B := []) x) (fun z => nomatch z) (fun _ _ _ z => nomatch z), s.ok, s.ne, x _ _ s.hl, x _ _ s.hp, s.e.trans x⟩
/-- a diagram goes on -/
theorem Sta.dg {H' : Hp} {D' : List Nd} {L' : NL} (s : Sta K w P H0 H d r a ld lp D L ps) (se : Sepa d r a ld lp H0) (b : Bool) (bt : But (dgL (a b)) H H') (g : Dg K w P H' (d b) (a b) 2000 D' L') (M : Mo (D b) D') (fv : Five D') : Sta K w P H0 H' d r a ld lp (set1 D b D') (set1 L b L') ps where
  g := fun c => by
    by_cases h : c = b
    · rw [h, set1_same, set1_same]
      exact g
    · rw [set1_ne h, set1_ne h]
      have hc : c = !b := by cases b <;> cases c <;> first | rfl | exact absurd rfl h
      obtain ⟨⟨dx, i⟩, h1, h2, h3, h4, h5, h6, ks, ap, ok, b64, f, kn⟩ := s.g c
      have nm : ∀ x ∈ dgL (a c), x ∉ dgL (a b) := fun x hx => by
        have := se.s1 c x hx
        rw [hc, Bool.not_not] at this
        exact this
      have ni : d c ∉ dgL (a b) := fun z => by
        simp only [List.mem_cons, List.not_mem_nil, or_false] at z
        have gb := s.g b
        rcases z with e | e | e | e | e | e
        · rw [e, gb.h1] at i; cases i
        · rw [e, gb.h2] at i; cases i
        · rw [e, gb.h3] at i; cases i
        · rw [e, gb.h4] at i; cases i
        · rw [e, gb.h5] at i; cases i
        · rw [e, gb.h6] at i; cases i
      exact ⟨⟨dx, bt _ _ ni i⟩, bt _ _ (nm _ (by simp)) h1, bt _ _ (nm _ (by simp)) h2, bt _ _ (nm _ (by simp)) h3, bt _ _ (nm _ (by simp)) h4, bt _ _ (nm _ (by simp)) h5, bt _ _ (nm _ (by simp)) h6,
        fun p hp => by
          obtain ⟨q, k1, k2⟩ := ks p hp
          exact ⟨q, bt _ _ ((s.g b).tne k1) k1, bt _ _ ((s.g b).tne k2) k2⟩, ap, ok, b64, f, kn⟩
  fv := fun c => by
    by_cases h : c = b
    · rw [h, set1_same]; exact fv
    · rw [set1_ne h]; exact s.fv c
  pr := fun c => pr_but (s.pr c) bt (se.s2 b c) fun p xs h => (s.g b).tne h
  ok := fun c p hp => by
    by_cases h : c = b
    · rw [h, set1_same]
      rw [h] at hp
      exact pr_ext (s.g b).ok M (s.ok b p hp)
    · rw [set1_ne h]; exact s.ok c p hp
  ne := s.ne
  hl := bt _ _ (se.s3 b).1 s.hl
  hp := bt _ _ (se.s3 b).2 s.hp
  e := exB s.e (se.s6 b).1 bt
/-- a pair more -/
theorem Sta.app {b : Bool} {q : Addr} {p : Nat × Nat} {qs : List Addr} (s : Sta K w P H0 H d r a ld lp D L ps) (se : Sepa d r a ld lp H0) (hq : H q = some (.tup [vi p.1, vi p.2])) (po : PrOk (D b) p) (ql : qs.length = (ps b).length) (hr : H (r b) = some (.lst (qs.map V.ref)))
    (hh : ∀ (i : Nat) q p, qs[i]? = some q → (ps b)[i]? = some p → H q = some (.tup [vi p.1, vi p.2])) : Sta K w P H0 (upd H (r b) (.lst (qs.map V.ref ++ [.ref q]))) d r a ld lp D L (set1 ps b (ps b ++ [p])) := by
  have ht : ∀ {x : Addr} {xs : List V}, H x = some (.tup xs) → x ≠ r b := fun h z => by rw [z, hr] at h; cases h
  have bt : But [r b] H (upd H (r b) (.lst (qs.map V.ref ++ [.ref q]))) := But.put (by simp)
  refine ⟨fun c => ?_, s.fv, fun c => ?_, fun c x hx => ?_, fun c => ?_, bt _ _ (fun z => (se.s5 b).1 (List.mem_singleton.mp z).symm) s.hl, bt _ _ (fun z => (se.s5 b).2 (List.mem_singleton.mp z).symm) s.hp, exB s.e (fun x hx => by rw [List.mem_singleton.mp hx]; exact (se.s6 b).2) bt⟩
  · obtain ⟨⟨dx, i⟩, h1, h2, h3, h4, h5, h6, ks, ap, ok, b64, f, kn⟩ := s.g c
    have nm : ∀ x ∈ dgL (a c), x ∉ [r b] := fun x hx z => se.s2 c b (by rw [← List.mem_singleton.mp z]; exact hx)
    exact ⟨⟨dx, bt _ _ (fun z => by rw [List.mem_singleton.mp z, hr] at i; cases i) i⟩, bt _ _ (nm _ (by simp)) h1, bt _ _ (nm _ (by simp)) h2, bt _ _ (nm _ (by simp)) h3, bt _ _ (nm _ (by simp)) h4, bt _ _ (nm _ (by simp)) h5, bt _ _ (nm _ (by simp)) h6,
      fun p hp => by
        obtain ⟨q, k1, k2⟩ := ks p hp
        exact ⟨q, bt _ _ (fun z => ht k1 (List.mem_singleton.mp z)) k1, bt _ _ (fun z => ht k2 (List.mem_singleton.mp z)) k2⟩, ap, ok, b64, f, kn⟩
  · by_cases h : c = b
    · rw [h, set1_same]
      refine ⟨qs ++ [q], by simp [ql], by rw [upd_same, List.map_append]; rfl, fun i q' p' e1 e2 => ?_⟩
      have old : H q' = some (.tup [vi p'.1, vi p'.2]) := by
        by_cases hi : i < qs.length
        · rw [List.getElem?_append_left hi] at e1
          rw [List.getElem?_append_left (by omega)] at e2
          exact hh i q' p' e1 e2
        · rw [List.getElem?_append_right (by omega)] at e1
          rw [List.getElem?_append_right (by omega)] at e2
          have a1 := List.mem_singleton.mp (List.mem_of_getElem? e1)
          have a2 := List.mem_singleton.mp (List.mem_of_getElem? e2)
          rw [a1, a2]
          exact hq
      rw [upd_ne (ht old)]
      exact old
    · rw [set1_ne h]
      refine pr_but (s.pr c) bt (fun z => ?_) fun x xs h z => ht h (List.mem_singleton.mp z)
      have z := List.mem_singleton.mp z
      have : c = !b := by cases b <;> cases c <;> first | rfl | exact absurd rfl h
      rw [this] at z
      cases b
      · exact se.s4 z.symm
      · exact se.s4 z
  · by_cases h : c = b
    · rw [h, set1_same] at hx
      rw [h]
      rcases List.mem_append.mp hx with hx | hx
      · exact s.ok b x hx
      · rw [List.mem_singleton.mp hx]
        exact po
    · rw [set1_ne h] at hx
      exact s.ok c x hx
  · by_cases h : c = b
    · rw [h, set1_same]; simp
    · rw [set1_ne h]; exact s.ne c
end

theorem pick {x : Bool → V} (b : Bool) : atI [x false, x true] (if b then 1 else 0) = some (x b) := by cases b <;> rfl
theorem Dg.nin {H : Hp} {d : Addr} {a : Nat → Addr} {most : Nat} {D : List Nd} {L : NL} {p : Addr} (g : Dg K w P H d a most D L) (h : H p = none) : p ∉ dgL a := fun z => by
  simp only [List.mem_cons, List.not_mem_nil, or_false] at z
  rcases z with e | e | e | e | e | e
  · rw [e, g.h1] at h; cases h
  · rw [e, g.h2] at h; cases h
  · rw [e, g.h3] at h; cases h
  · rw [e, g.h4] at h; cases h
  · rw [e, g.h5] at h; cases h
  · rw [e, g.h6] at h; cases h
theorem vr_law {K : PySem.W.Frag} (vs H Q E) (h : sp_law K vs H Q E) : (rd_law K w P) { nx := fun _ H' => Q .non H', rt := Q } (start ["_law_script", "_law_diagrams", "_law_pairs", "_law_k", "_law_cell_here", "_law_number", "_law_who", "_law_pair", "_law_many", "_law_row", "_law_one", "_law_other"] vs) H := by
  obtain ⟨sa, ns, rfl, hS, hl, q⟩ := h
  unfold rd_law
  walk_at "zz"
  intro d0 dx0 hd0 hdx0 hne0
  refine ⟨d0, dx0, 2000, rfl, upd_same, by omega, fun H1 a0 g0 fr0 bt0 => ⟨rfl, ?_⟩⟩
  obtain ⟨e1, f0⟩ := new_dg hd0 hdx0 hne0 fr0 bt0
  walk_at "zz"
  intro d1 dx1 hd1 hdx1 hne1
  refine ⟨d1, dx1, 2000, rfl, upd_same, by omega, fun H2 a1 g1 fr1 bt1 => ⟨rfl, ?_⟩⟩
  obtain ⟨e2, f1⟩ := new_dg hd1 hdx1 hne1 fr1 bt1
  have g0b := g0.ex e2
  have s1 : ∀ x ∈ dgL a0, x ∉ dgL a1 := fun x h0 h1 => g0.nin (f1 x h1) h0
  walk_at "zz"
  refine ⟨szl (by show 2 ≤ 1000; decide), fun ld nld => ?_⟩
  have i0ld := (g0b.ex (Ex.refl H2)).nin nld
  have i1ld := (g1.ex (Ex.refl H2)).nin nld
  have h0ld := fresh_back ((e1.trans e2).trans (Ex.refl H2)) nld
  have y1 := Ex.new (o := .lst [V.ref d0, V.ref d1]) nld
  have sld : (upd H2 ld (.lst [V.ref d0, V.ref d1])) ld = some (.lst [V.ref d0, V.ref d1]) := upd_same
  generalize upd H2 ld (.lst [V.ref d0, V.ref d1]) = H3 at y1 sld  ⊢
  have zH3 := Ex.trans (Ex.refl H2) y1
  walk_at "zz"
  refine ⟨szl (by show 2 ≤ 1000; decide), fun t1 nt1 => ?_⟩
  have y2 := Ex.new (o := .tup [V.int 0, V.int 0]) nt1
  have st1 : (upd H3 t1 (.tup [V.int 0, V.int 0])) t1 = some (.tup [V.int 0, V.int 0]) := upd_same
  have sld := y2 _ _ sld
  generalize upd H3 t1 (.tup [V.int 0, V.int 0]) = H4 at y2 st1 sld ⊢
  have zH4 := Ex.trans zH3 y2
  walk_at "zz"
  rw [wh_is]
  refine ⟨szl (by show 2 ≤ 1000; decide), fun t2 nt2 => ?_⟩
  have y3 := Ex.new (o := .tup [V.int 1, V.int ((WH : Nat) : Int)]) nt2
  have st2 : (upd H4 t2 (.tup [V.int 1, V.int ((WH : Nat) : Int)])) t2 = some (.tup [V.int 1, V.int ((WH : Nat) : Int)]) := upd_same
  have sld := y3 _ _ sld
  have st1 := y3 _ _ st1
  generalize upd H4 t2 (.tup [V.int 1, V.int ((WH : Nat) : Int)]) = H5 at y3 st2 sld st1 ⊢
  have zH5 := Ex.trans zH4 y3
  walk_at "zz"
  refine ⟨szl (by show 2 ≤ 1000; decide), fun r0 nr0 => ?_⟩
  have i0r0 := (g0b.ex zH5).nin nr0
  have i1r0 := (g1.ex zH5).nin nr0
  have h0r0 := fresh_back ((e1.trans e2).trans zH5) nr0
  have r0ld : r0 ≠ ld := fun z => by rw [z, sld] at nr0; cases nr0
  have y4 := Ex.new (o := .lst [V.ref t1, V.ref t2]) nr0
  have sr0 : (upd H5 r0 (.lst [V.ref t1, V.ref t2])) r0 = some (.lst [V.ref t1, V.ref t2]) := upd_same
  have sld := y4 _ _ sld
  have st1 := y4 _ _ st1
  have st2 := y4 _ _ st2
  generalize upd H5 r0 (.lst [V.ref t1, V.ref t2]) = H6 at y4 sr0 sld st1 st2 ⊢
  have zH6 := Ex.trans zH5 y4
  walk_at "zz"
  refine ⟨szl (by show 2 ≤ 1000; decide), fun t3 nt3 => ?_⟩
  have y5 := Ex.new (o := .tup [V.int 0, V.int 0]) nt3
  have st3 : (upd H6 t3 (.tup [V.int 0, V.int 0])) t3 = some (.tup [V.int 0, V.int 0]) := upd_same
  have sld := y5 _ _ sld
  have st1 := y5 _ _ st1
  have st2 := y5 _ _ st2
  have sr0 := y5 _ _ sr0
  generalize upd H6 t3 (.tup [V.int 0, V.int 0]) = H7 at y5 st3 sld st1 st2 sr0 ⊢
  have zH7 := Ex.trans zH6 y5
  walk_at "zz"
  rw [wh_is]
  refine ⟨szl (by show 2 ≤ 1000; decide), fun t4 nt4 => ?_⟩
  have y6 := Ex.new (o := .tup [V.int 1, V.int ((WH : Nat) : Int)]) nt4
  have st4 : (upd H7 t4 (.tup [V.int 1, V.int ((WH : Nat) : Int)])) t4 = some (.tup [V.int 1, V.int ((WH : Nat) : Int)]) := upd_same
  have sld := y6 _ _ sld
  have st1 := y6 _ _ st1
  have st2 := y6 _ _ st2
  have sr0 := y6 _ _ sr0
  have st3 := y6 _ _ st3
  generalize upd H7 t4 (.tup [V.int 1, V.int ((WH : Nat) : Int)]) = H8 at y6 st4 sld st1 st2 sr0 st3 ⊢
  have zH8 := Ex.trans zH7 y6
  walk_at "zz"
  refine ⟨szl (by show 2 ≤ 1000; decide), fun r1 nr1 => ?_⟩
  have i0r1 := (g0b.ex zH8).nin nr1
  have i1r1 := (g1.ex zH8).nin nr1
  have h0r1 := fresh_back ((e1.trans e2).trans zH8) nr1
  have r1ld : r1 ≠ ld := fun z => by rw [z, sld] at nr1; cases nr1
  have r01 : r0 ≠ r1 := fun z => by rw [← z, sr0] at nr1; cases nr1
  have y7 := Ex.new (o := .lst [V.ref t3, V.ref t4]) nr1
  have sr1 : (upd H8 r1 (.lst [V.ref t3, V.ref t4])) r1 = some (.lst [V.ref t3, V.ref t4]) := upd_same
  have sld := y7 _ _ sld
  have st1 := y7 _ _ st1
  have st2 := y7 _ _ st2
  have sr0 := y7 _ _ sr0
  have st3 := y7 _ _ st3
  have st4 := y7 _ _ st4
  generalize upd H8 r1 (.lst [V.ref t3, V.ref t4]) = H9 at y7 sr1 sld st1 st2 sr0 st3 st4 ⊢
  have zH9 := Ex.trans zH8 y7
  walk_at "zz"
  refine ⟨szl (by show 2 ≤ 1000; decide), fun lp nlp => ?_⟩
  have i0lp := (g0b.ex zH9).nin nlp
  have i1lp := (g1.ex zH9).nin nlp
  have h0lp := fresh_back ((e1.trans e2).trans zH9) nlp
  have r0lp : r0 ≠ lp := fun z => by rw [← z, sr0] at nlp; cases nlp
  have r1lp : r1 ≠ lp := fun z => by rw [← z, sr1] at nlp; cases nlp
  have y8 := Ex.new (o := .lst [V.ref r0, V.ref r1]) nlp
  have slp : (upd H9 lp (.lst [V.ref r0, V.ref r1])) lp = some (.lst [V.ref r0, V.ref r1]) := upd_same
  have sld := y8 _ _ sld
  have st1 := y8 _ _ st1
  have st2 := y8 _ _ st2
  have sr0 := y8 _ _ sr0
  have st3 := y8 _ _ st3
  have st4 := y8 _ _ st4
  have sr1 := y8 _ _ sr1
  generalize upd H9 lp (.lst [V.ref r0, V.ref r1]) = HA at y8 slp sld st1 st2 sr0 st3 st4 sr1 ⊢
  have zHA := Ex.trans zH9 y8
  walk_at "zz"
  let d : Bool → Addr := fun b => if b then d1 else d0
  let r : Bool → Addr := fun b => if b then r1 else r0
  let a : Bool → Nat → Addr := fun b => if b then a1 else a0
  have se : Sepa d r a ld lp H := by
    refine ⟨fun b => ?_, fun b c => ?_, fun b => ?_, r01, fun b => ?_, fun b => ?_⟩
    · cases b
      · exact s1
      · exact fun x h1 h0 => s1 x h0 h1
    · cases b <;> cases c
      · exact i0r0
      · exact i0r1
      · exact i1r0
      · exact i1r1
    · cases b
      · exact ⟨i0ld, i0lp⟩
      · exact ⟨i1ld, i1lp⟩
    · cases b
      · exact ⟨r0ld, r0lp⟩
      · exact ⟨r1ld, r1lp⟩
    · cases b
      · exact ⟨f0, h0r0⟩
      · exact ⟨fun x h => fresh_back e1 (f1 x h), h0r1⟩
  have prZ : PrOk [] (0, 0) := ⟨by decide, by decide, fun m hm => by rw [val0]; exact Nat.zero_testBit m⟩
  have prO : PrOk [] (1, WH) := ⟨by decide, by decide, fun m hm => by rw [val1]; exact wh_bit hm⟩
  have st : Sta K w P H HA d r a ld lp (fun _ => []) (fun _ => []) (fun _ => [(0, 0), (1, WH)]) := by
    have two : ∀ {H : Hp} {x y : Addr}, H x = some (.tup [V.int 0, V.int 0]) → H y = some (.tup [V.int 1, V.int ((WH : Nat) : Int)]) → ∀ (i : Nat) (q : Addr) (p : Nat × Nat), [x, y][i]? = some q → [((0 : Nat), (0 : Nat)), (1, WH)][i]? = some p → H q = some (.tup [vi p.1, vi p.2]) := fun {H x y} hx hy i q p e1 e2 => by
      match i, e1, e2 with
      | 0, e1, e2 => cases e1; cases e2; exact hx
      | 1, e1, e2 => cases e1; cases e2; exact hy
      | i + 2, e1, _ => simp at e1
    refine ⟨fun b => ?_, (fun b n hn => nomatch hn), fun b => ?_, fun b p hp => ?_, (fun b => by show 0 < 2; decide), sld, slp, (e1.trans e2).trans zHA⟩
    · cases b
      · exact g0b.ex zHA
      · exact g1.ex zHA
    · cases b
      · exact ⟨[t1, t2], rfl, sr0, two st1 st2⟩
      · exact ⟨[t3, t4], rfl, sr1, two st3 st4⟩
    · simp only [List.mem_cons, List.not_mem_nil, or_false] at hp
      rcases hp with rfl | rfl
      · exact prZ
      · exact prO
  have hd0 : d false = d0 := rfl
  generalize d = d at se st hd0
  generalize r = r at se st
  generalize a = a at se st
  clear y1 y2 y3 y4 y5 y6 y7 y8
  refine z_ixL (sq_of st.hl) (v := .ref (d false)) rfl ?_
  have gf := st.g false
  refine gf.m (by decide +kernel) ?_
  walk_at "zz"
  refine ⟨_, _, _, _, _, rfl, gf, fun HB eB => ?_⟩
  have st := st.ex eB
  walk_at "zz"
  rw [vi_eq0, decide_eq_true (show ([] : List Nd).length = 0 from rfl)]
  refine ite_f ?_
  walk_at "zz"
  have e60 : cutV (ns.map V.int) none (some 60) = (ns.take 60).map V.int := by
    unfold cutV
    rw [HT.sIx_none, show (60 : Int) = ((60 : Nat) : Int) from rfl, HT.sIx_nat, List.length_map, Nat.sub_zero, List.drop_zero, ← List.map_take]
    congr 1
    rw [Nat.min_def]
    split
    · rfl
    · rw [List.take_length, List.take_of_length_le (by omega)]
  refine z_slL (ex_l st.e hS) fun pS nS => ?_
  rw [e60]
  have iS : ∀ b, pS ∉ dgL (a b) := fun b => (st.g b).nin nS
  have rS : ∀ b, pS ≠ r b := fun b z => by
    obtain ⟨qs, _, h2, _⟩ := st.pr b
    rw [← z, nS] at h2
    cases h2
  have xS := Ex.new (o := .lst ((ns.take 60).map V.int)) nS
  have sS : (upd HB pS (.lst ((ns.take 60).map V.int))) pS = some (.lst ((ns.take 60).map V.int)) := upd_same
  have st := st.ex xS
  generalize upd HB pS (.lst ((ns.take 60).map V.int)) = HC at xS sS st ⊢
  have len60 : (ns.take 60).length ≤ 60 := by rw [List.length_take]; omega
  generalize ns.take 60 = ms at sS len60 ⊢
  walk_at "zz"
  refine z_FE (xs := ms.map V.int) (sq_of sS) (fun i σ H' => (∃ v3 v4 v5 v6 v7 v8 v9 v10 v11, σ = [some (.ref sa), some (.ref ld), some (.ref lp), v3, v4, v5, v6, v7, v8, v9, v10, v11]) ∧ H' pS = some (.lst (ms.map V.int)) ∧ ∃ D L ps, Sta K w P H H' d r a ld lp D L ps ∧ ∀ b, (D b).length ≤ 31 * i ∧ (L b).length ≤ 31 * i ∧ (ps b).length ≤ 2 + i) ⟨⟨_, _, _, _, _, _, _, _, _, rfl⟩, sS, _, _, _, st, fun b => ⟨Nat.zero_le _, Nat.zero_le _, Nat.le_refl _⟩⟩ (fun i σ H' hi hp => sq_of hp.2.1) (fun i x p σ H1 H2 hi hx hp ee np eH => ?_) (fun σ H' hp => ?_)
  · obtain ⟨⟨v3, v4, v5, v6, v7, v8, v9, v10, v11, rfl⟩, sS, D, L, ps, st, bds⟩ := hp
    have st2 := st.ex ee
    have sS2 := ee _ _ sS
    have hp2 : H2 p = some (.tup [.int (i : Nat), x]) := by rw [eH]; exact upd_same
    clear eH np
    rw [List.length_map] at hi
    obtain ⟨c, rfl⟩ : ∃ c : Int, x = .int c := by
      rw [List.getElem?_map] at hx
      obtain ⟨c, _, h2⟩ := Option.map_eq_some_iff.mp hx
      exact ⟨c, h2.symm⟩
    refine z_gtup2 (st_of hp2) ?_
    walk_at "zz"
    refine ⟨c % 2147483647, (i : Nat), rfl, ⟨by omega, by omega⟩, fun H3 e3 => ?_⟩
    obtain ⟨nb0, nb1⟩ := mixN_b (c % 2147483647) (i : Int)
    generalize mixN (c % 2147483647) (i : Int) = nb at nb0 nb1 ⊢
    have st3 := st2.ex e3
    have sS3 := e3 _ _ sS2
    walk_at "zz"
    obtain ⟨b, eb⟩ : ∃ b : Bool, nb % 3 / 2 = if b then 1 else 0 := by
      have : nb % 3 / 2 = 0 ∨ nb % 3 / 2 = 1 := by omega
      rcases this with h | h
      · exact ⟨false, h⟩
      · exact ⟨true, h⟩
    rw [eb]
    refine z_ixL (sq_of st3.hl) (pick (x := fun b => V.ref (d b)) b) ?_
    walk_at "zz"
    refine z_ixL (sq_of st3.hp) (pick (x := fun b => V.ref (r b)) b) ?_
    walk_at "zz"
    obtain ⟨bd1, bd2, bd3⟩ := bds b
    refine ⟨d b, r b, a b, 2000, D b, L b, ps b, nb / 3, rfl, st3.g b, ⟨st3.fv b, by omega, by omega⟩, by omega, st3.pr b, ⟨st3.ne b, by omega⟩, st3.ok b, fun H4 D' L' q4 pp g4 M fv4 l1 l2 hq4 po bt => ?_⟩
    have st4 := st3.dg se b bt g4 M fv4
    have sS4 := bt _ _ (iS b) sS3
    walk_at "zz"
    refine z_ixL (sq_of st4.hp) (pick (x := fun b => V.ref (r b)) b) ?_
    obtain ⟨qs, ql, hr4, hh4⟩ := st4.pr b
    refine z_tyl (sq_of hr4) ?_
    walk_at "zz"
    refine z_rapp hr4 (by rw [List.length_map, ql, sizeLine_eq]; omega) ?_
    have st5 := st4.app se hq4 (by rw [set1_same]; exact po) ql hr4 hh4
    have qr : q4 ≠ r b := fun z => by rw [z, hr4] at hq4; cases hq4
    have hq5 : (upd H4 (r b) (.lst (qs.map V.ref ++ [.ref q4]))) q4 = some (.tup [vi pp.1, vi pp.2]) := by rw [upd_ne qr]; exact hq4
    have sS5 : (upd H4 (r b) (.lst (qs.map V.ref ++ [.ref q4]))) pS = some (.lst (ms.map V.int)) := by rw [upd_ne (rS b)]; exact sS4
    generalize upd H4 (r b) (.lst (qs.map V.ref ++ [.ref q4])) = H5 at st5 hq5 sS5 ⊢
    clear st4 st3 st2 hr4 hh4 hq4
    walk_at "zz"
    refine z_ixL (sq_of st5.hl) (pick (x := fun b => V.ref (d b)) b) ?_
    walk_at "zz"
    refine z_ixT (st_of hq5) rfl ?_
    walk_at "zz"
    refine z_ixT (st_of hq5) rfl ?_
    walk_at "zz"
    refine ⟨d b, a b, 2000, _, _, pp.1, pp.2, nb / 7, rfl, st5.g b, st5.fv b, st5.ok b pp (by rw [set1_same]; simp), by omega, fun H6 e6 => ?_⟩
    have st6 := st5.ex e6
    have sS6 := e6 _ _ sS5
    refine z_trub (ite_f ?_)
    walk_at "zz"
    refine z_ixL (sq_of st6.hl) (pick (x := fun b => V.ref (d b)) b) ?_
    refine (st6.g b).m (by decide +kernel) ?_
    walk_at "zz"
    refine ⟨_, _, _, _, _, rfl, st6.g b, fun H7 e7 => ?_⟩
    have st7 := st6.ex e7
    have sS7 := e7 _ _ sS6
    walk_at "zz"
    refine z_ixL (sq_of st7.hp) (pick (x := fun b => V.ref (r b)) b) ?_
    obtain ⟨qs7, ql7, hr7, hh7⟩ := st7.pr b
    have ok7 := st7.ok b
    have bnd : ∀ c, (set1 D b D' c).length ≤ 31 * (i + 1) ∧ (set1 L b L' c).length ≤ 31 * (i + 1) ∧ (set1 ps b (ps b ++ [pp]) c).length ≤ 2 + (i + 1) := fun c => by
      by_cases h : c = b
      · rw [h, set1_same, set1_same, set1_same, List.length_append]
        exact ⟨by omega, by omega, by show _ + 1 ≤ _; omega⟩
      · rw [set1_ne h, set1_ne h, set1_ne h]
        have := bds c
        exact ⟨by omega, by omega, by omega⟩
    have ql7l := (bnd b).2.2
    generalize set1 ps b (ps b ++ [pp]) = ps7 at st7 ql7 hr7 hh7 ok7 bnd ql7l ⊢
    generalize set1 D b D' = D7 at st7 ok7 bnd ⊢
    generalize set1 L b L' = L7 at st7 bnd ⊢
    refine z_CL (sq_of hr7) (by rw [List.length_map]; omega) (fun _ => true) (fun j => vi ((ps7 b).getD j (0, 0)).2) (fun _ => rfl) (fun j x H' hj ex e => fun H2 e2 Q' q' => q' _ (Ex.refl _)) (fun j x H' hj ex e _ => fun Hb eb Q' q' => ?_) (fun l8 H8 n8 e8 h8 => ?_)
    · rw [List.getElem?_map] at ex
      obtain ⟨qj, h1, rfl⟩ := Option.map_eq_some_iff.mp ex
      rw [List.length_map, ql7] at hj
      have h2 := List.getElem?_eq_getElem hj
      have h3 := eb _ _ (e _ _ (hh7 j qj _ h1 h2))
      walk_at "zz"
      rw [List.getD_eq_getElem?_getD, h2] at q'
      exact z_ixT (st_of h3) rfl (q' _ (Ex.refl _))
    rw [given_all, List.length_map, ql7, map_at (fun p : Nat × Nat => vi p.2) (0, 0) (ps7 b)] at h8
    have st8 := st7.ex e8
    have sS8 := e8 _ _ sS7
    refine ⟨l8, (ps7 b).map fun p => (p.2 : Int), rfl, sq_of (by rw [h8, List.map_map]; rfl), by rw [List.length_map]; omega, fun mm nd hm => ?_⟩
    have fdm := few_truths (st7.g b).ok (st7.fv b) ok7 nd hm
    walk_at "zz"
    rw [decide_eq_false (show ¬ (((D7 b).length : Nat) : Int) < ((mm.length : Nat) : Int) - 2 by omega)]
    refine ite_f ?_
    walk_at "zz"
    refine z_isi (T := "int") (U := "bool") (b := false) (.base (.int _)) (kit_ty (by decide +kernel)) (z_trub (ite_f ?_))
    walk_at "zz"
    exact ⟨⟨_, _, _, _, _, _, _, _, _, rfl⟩, sS8, D7, L7, ps7, st8, bnd⟩
  obtain ⟨⟨v3, v4, v5, v6, v7, v8, v9, v10, v11, rfl⟩, sS, D, L, ps, st, bds⟩ := hp
  walk_at "zz"
  refine z_FL (xs := [V.ref (r false), V.ref (r true)]) (sq_of st.hp) (fun i σ H2 => (∃ v9 v10 v11, σ = [some (.ref sa), some (.ref ld), some (.ref lp), v3, v4, v5, v6, v7, v8, v9, v10, v11]) ∧ Ex H' H2) ⟨⟨_, _, _, rfl⟩, Ex.refl _⟩ (fun i σ H2 hi hp => sq_of (hp.2 _ _ st.hp)) (fun i x σ H2 hi hx hp => ?_) (fun σ H2 hp => ?_)
  · obtain ⟨⟨v9, v10, v11, rfl⟩, e2⟩ := hp
    have st2 := st.ex e2
    obtain ⟨b, rfl⟩ : ∃ b : Bool, x = .ref (r b) := by
      match i, hx with
      | 0, hx => cases hx; exact ⟨false, rfl⟩
      | 1, hx => cases hx; exact ⟨true, rfl⟩
      | i + 2, hx => simp at hx
    obtain ⟨qs, ql, hr, hh⟩ := st2.pr b
    have bl := (bds b).2.2
    rw [List.length_map] at bl
    have at_q : ∀ {j : Nat} {x : V} {H3 : Hp}, Ex H2 H3 → (qs.map V.ref)[j]? = some x → ∃ q, ∃ pp : Nat × Nat, x = .ref q ∧ PrOk (D b) pp ∧ H3 q = some (.tup [vi pp.1, vi pp.2]) := fun {j x H3} e3 ex => by
      rw [List.getElem?_map] at ex
      obtain ⟨qj, h1, rfl⟩ := Option.map_eq_some_iff.mp ex
      have hj := (List.getElem?_eq_some_iff.mp h1).1
      rw [ql] at hj
      have h2 := List.getElem?_eq_getElem hj
      exact ⟨qj, _, rfl, st2.ok b _ (List.getElem_mem hj), e3 _ _ (hh j qj _ h1 h2)⟩
    walk_at "zz"
    refine z_FL (xs := qs.map V.ref) (sq_of hr) (fun j σ H3 => (∃ v10 v11, σ = [some (.ref sa), some (.ref ld), some (.ref lp), v3, v4, v5, v6, v7, v8, some (.ref (r b)), v10, v11]) ∧ Ex H2 H3) ⟨⟨_, _, rfl⟩, Ex.refl _⟩ (fun j σ H3 hj hp => sq_of (hp.2 _ _ hr)) (fun j x σ H3 hj hx hp => ?_) (fun σ H3 hp => ?_)
    · obtain ⟨⟨v10, v11, rfl⟩, e3⟩ := hp
      obtain ⟨q1, p1, rfl, ok1, hq1⟩ := at_q e3 hx
      walk_at "zz"
      refine z_CL (sq_of (e3 _ _ hr)) (by rw [List.length_map]; omega) (fun _ => false) (fun _ => .non) (fun _ => rfl) (fun j x H4 hj ex e4 => fun H5 e5 Q' q' => ?_) (fun j x H4 hj ex e4 hf => by cases hf) (fun lA H4 nA eA hA => ?_)
      · obtain ⟨q2, p2, rfl, ok2, hq2⟩ := at_q (e3.trans (e4.trans e5)) ex
        have hq1 := e5 _ _ (e4 _ _ hq1)
        walk_at "zz"
        refine z_ixT (st_of hq2) rfl ?_
        walk_at "zz"
        refine z_ixT (st_of hq1) rfl ?_
        walk_at "zz"
        refine z_ixT (st_of hq2) rfl ?_
        walk_at "zz"
        refine z_ixT (st_of hq1) rfl ?_
        walk_at "zz"
        have e : decide (vi p2.1 = vi p1.1) = decide (vi p2.2 = vi p1.2) := by
          rw [vi_eq, vi_eq]
          exact decide_eq_decide.mpr (pr_one (st2.g b).ok (st2.fv b) ok2 ok1)
        rw [e, decide_eq_true rfl]
        exact q' _ (Ex.refl _)
      walk_at "zz"
      refine ⟨szl (by decide), fun pE nE => ?_⟩
      have xE := Ex.new (o := .lst []) nE
      have hA : (upd H4 pE (.lst [])) lA = some (.lst []) := xE _ _ (by rw [hA]; unfold Evl.given; simp)
      refine z_neD (b := true) (.lst (sq_of hA) .nil) (.lst (sq_of upd_same) .nil) rfl rfl (by decide) (by decide) ⟨fun _ => rfl, fun _ => rfl⟩ ?_
      walk_at "zz"
      refine ite_f ?_
      walk_at "zz"
      exact ⟨⟨_, _, rfl⟩, (e3.trans eA).trans xE⟩
    · obtain ⟨⟨v10, v11, rfl⟩, e3⟩ := hp
      exact ⟨⟨_, _, _, rfl⟩, e2.trans e3⟩
  obtain ⟨⟨v9, v10, v11, rfl⟩, e2⟩ := hp
  have st2 := st.ex e2
  walk_at "zz"
  refine ⟨sa, ns, 2, rfl, ex_l st2.e hS, ⟨by decide, by decide⟩, fun H3 e3 => ?_⟩
  have cb := cellN_b ns 2
  walk_at "zz"
  obtain ⟨m, em⟩ : ∃ m : Nat, 1 + cellN ns 2 % 9 = (m : Int) := ⟨(1 + cellN ns 2 % 9).toNat, by omega⟩
  rw [em]
  refine ⟨m, rfl, ⟨by omega, by omega⟩, fun H4 e4 => ?_⟩
  exact q H4 ((st2.e.trans e3).trans e4)
end

end K28
namespace K28
open PySem PySem.Spec PyProof.Rows L2 Z
open Evl (Ex ex_l ex_t sq_of st_of fresh_back RetL RetV)

def topS (i : Nat) : Stmt := PySem.Challenge.pw_wireyard_k28_diagrams.main.body.getD i (.Pass ⟨0, 0, 0, 0⟩)
abbrev s_Diagrams_init : Stmt := inCls (topS 7) 0
theorem sc_Diagrams_init : FnScope ["self", "most"] ["self", "most"] (defScope s_Diagrams_init) := ⟨rfl, rfl, rfl, by decide +kernel, rfl, by decide +kernel, by decide +kernel⟩
abbrev s_Diagrams_how_many : Stmt := inCls (topS 7) 1
theorem sc_Diagrams_how_many : FnScope ["self"] ["self"] (defScope s_Diagrams_how_many) := ⟨rfl, rfl, rfl, by decide +kernel, rfl, by decide +kernel, by decide +kernel⟩
abbrev s_L_mixed : Stmt := topS 12
theorem sc_L_mixed : FnScope ["_law_number", "_law_k"] ["_law_number", "_law_k"] (defScope s_L_mixed) := ⟨rfl, rfl, rfl, by decide +kernel, rfl, by decide +kernel, by decide +kernel⟩
abbrev s_p_way_by : Stmt := topS 8
theorem sc_p_way_by : FnScope ["bit", "low_way", "high_way"] ["bit", "low_way", "high_way"] (defScope s_p_way_by) := ⟨rfl, rfl, rfl, by decide +kernel, rfl, by decide +kernel, by decide +kernel⟩
abbrev s_Diagrams_p_knot : Stmt := inCls (topS 7) 13
theorem sc_Diagrams_p_knot : FnScope ["self", "bit", "low", "high"] ["self", "bit", "low", "high"] (defScope s_Diagrams_p_knot) := ⟨rfl, rfl, rfl, by decide +kernel, rfl, by decide +kernel, by decide +kernel⟩
abbrev s_Diagrams_bit : Stmt := inCls (topS 7) 2
theorem sc_Diagrams_bit : FnScope ["self", "place"] ["self", "place"] (defScope s_Diagrams_bit) := ⟨rfl, rfl, rfl, by decide +kernel, rfl, by decide +kernel, by decide +kernel⟩
abbrev s_L_bit : Stmt := topS 16
theorem sc_L_bit : FnScope ["_law_place", "_law_word_here"] ["_law_place"] (defScope s_L_bit) := ⟨rfl, rfl, rfl, by decide +kernel, rfl, by decide +kernel, by decide +kernel⟩
abbrev s_Diagrams_p_side : Stmt := inCls (topS 7) 12
theorem sc_Diagrams_p_side : FnScope ["self", "knot", "bit", "worth"] ["self", "knot", "bit", "worth"] (defScope s_Diagrams_p_side) := ⟨rfl, rfl, rfl, by decide +kernel, rfl, by decide +kernel, by decide +kernel⟩
abbrev s_Diagrams_p_choice : Stmt := inCls (topS 7) 16
theorem sc_Diagrams_p_choice : FnScope ["self", "bit", "low", "high", "first", "lows", "highs"] ["self", "bit", "low", "high"] (defScope s_Diagrams_p_choice) := ⟨rfl, rfl, rfl, by decide +kernel, rfl, by decide +kernel, by decide +kernel⟩
abbrev s_p_known_by_rule : Stmt := topS 9
theorem sc_p_known_by_rule : FnScope ["kind", "knots", "one", "other", "test"] ["kind", "knots"] (defScope s_p_known_by_rule) := ⟨rfl, rfl, rfl, by decide +kernel, rfl, by decide +kernel, by decide +kernel⟩
abbrev s_Diagrams_p_made : Stmt := inCls (topS 7) 15
theorem sc_Diagrams_p_made : FnScope ["self", "kind", "knots", "plain", "bit", "low", "high", "knot"] ["self", "kind", "knots"] (defScope s_Diagrams_p_made) := ⟨rfl, rfl, rfl, by decide +kernel, rfl, by decide +kernel, by decide +kernel⟩
abbrev s_Diagrams_p_whole : Stmt := inCls (topS 7) 14
theorem sc_Diagrams_p_whole : FnScope ["self", "kind", "knots", "many"] ["self", "kind", "knots"] (defScope s_Diagrams_p_whole) := ⟨rfl, rfl, rfl, by decide +kernel, rfl, by decide +kernel, by decide +kernel⟩
abbrev s_Diagrams_both : Stmt := inCls (topS 7) 4
theorem sc_Diagrams_both : FnScope ["self", "one", "other"] ["self", "one", "other"] (defScope s_Diagrams_both) := ⟨rfl, rfl, rfl, by decide +kernel, rfl, by decide +kernel, by decide +kernel⟩
abbrev s_Diagrams_either : Stmt := inCls (topS 7) 5
theorem sc_Diagrams_either : FnScope ["self", "one", "other"] ["self", "one", "other"] (defScope s_Diagrams_either) := ⟨rfl, rfl, rfl, by decide +kernel, rfl, by decide +kernel, by decide +kernel⟩
abbrev s_Diagrams_unlike : Stmt := inCls (topS 7) 6
theorem sc_Diagrams_unlike : FnScope ["self", "one", "other"] ["self", "one", "other"] (defScope s_Diagrams_unlike) := ⟨rfl, rfl, rfl, by decide +kernel, rfl, by decide +kernel, by decide +kernel⟩
abbrev s_Diagrams_turned : Stmt := inCls (topS 7) 7
theorem sc_Diagrams_turned : FnScope ["self", "knot"] ["self", "knot"] (defScope s_Diagrams_turned) := ⟨rfl, rfl, rfl, by decide +kernel, rfl, by decide +kernel, by decide +kernel⟩
abbrev s_Diagrams_chosen : Stmt := inCls (topS 7) 8
theorem sc_Diagrams_chosen : FnScope ["self", "test", "one", "other"] ["self", "test", "one", "other"] (defScope s_Diagrams_chosen) := ⟨rfl, rfl, rfl, by decide +kernel, rfl, by decide +kernel, by decide +kernel⟩
abbrev s_Diagrams_choice : Stmt := inCls (topS 7) 3
theorem sc_Diagrams_choice : FnScope ["self", "bit", "low", "high"] ["self", "bit", "low", "high"] (defScope s_Diagrams_choice) := ⟨rfl, rfl, rfl, by decide +kernel, rfl, by decide +kernel, by decide +kernel⟩
abbrev s_L_made : Stmt := topS 17
theorem sc_L_made : FnScope ["_law_diagram", "_law_pairs", "_law_number", "_law_way", "_law_more", "_law_one", "_law_other", "_law_third", "_law_whole", "_law_due", "_law_low", "_law_high", "_law_place", "_law_k"] ["_law_diagram", "_law_pairs", "_law_number"] (defScope s_L_made) := ⟨rfl, rfl, rfl, by decide +kernel, rfl, by decide +kernel, by decide +kernel⟩
abbrev s_Diagrams_beyond : Stmt := inCls (topS 7) 10
theorem sc_Diagrams_beyond : FnScope ["self", "knot", "size", "word"] ["self", "knot", "size", "word"] (defScope s_Diagrams_beyond) := ⟨rfl, rfl, rfl, by decide +kernel, rfl, by decide +kernel, by decide +kernel⟩
abbrev s_Diagrams_told : Stmt := inCls (topS 7) 9
theorem sc_Diagrams_told : FnScope ["self", "knot", "word"] ["self", "knot", "word"] (defScope s_Diagrams_told) := ⟨rfl, rfl, rfl, by decide +kernel, rfl, by decide +kernel, by decide +kernel⟩
abbrev s_Diagrams_way : Stmt := inCls (topS 7) 11
theorem sc_Diagrams_way : FnScope ["self", "knot"] ["self", "knot"] (defScope s_Diagrams_way) := ⟨rfl, rfl, rfl, by decide +kernel, rfl, by decide +kernel, by decide +kernel⟩
abbrev s_L_right : Stmt := topS 18
theorem sc_L_right : FnScope ["_law_diagram", "_law_knot", "_law_truths", "_law_number", "_law_word_here", "_law_due", "_law_size", "_law_after", "_law_some", "_law_high", "_law_one"] ["_law_diagram", "_law_knot", "_law_truths", "_law_number"] (defScope s_L_right) := ⟨rfl, rfl, rfl, by decide +kernel, rfl, by decide +kernel, by decide +kernel⟩
abbrev s_L_full : Stmt := topS 19
theorem sc_L_full : FnScope ["_law_most", "_law_diagram", "_law_place", "_law_turn", "_law_error", "e"] ["_law_most"] (defScope s_L_full) := ⟨rfl, rfl, rfl, by decide +kernel, rfl, by decide +kernel, by decide +kernel⟩
abbrev s_L_cell : Stmt := topS 11
theorem sc_L_cell : FnScope ["_law_script", "_law_k", "_law_cell_here"] ["_law_script", "_law_k"] (defScope s_L_cell) := ⟨rfl, rfl, rfl, by decide +kernel, rfl, by decide +kernel, by decide +kernel⟩
abbrev s_law : Stmt := topS 20
theorem sc_law : FnScope ["_law_script", "_law_diagrams", "_law_pairs", "_law_k", "_law_cell_here", "_law_number", "_law_who", "_law_pair", "_law_many", "_law_row", "_law_one", "_law_other"] ["_law_script"] (defScope s_law) := ⟨rfl, rfl, rfl, by decide +kernel, rfl, by decide +kernel, by decide +kernel⟩
structure Tx (K : PySem.W.Frag) (mg : Str → Option Value) : Prop where
  d_Diagrams_init : ZDN.DMd K "Diagrams" "__init__" "Diagrams.__init__" s_Diagrams_init (.int 2000)
  d_Diagrams_how_many : DM K "Diagrams" "how_many" "Diagrams.how_many" s_Diagrams_how_many
  d_L_mixed : DX K mg "_law_mixed" s_L_mixed
  d_p_way_by : DX K mg "_way_by" s_p_way_by
  d_Diagrams_p_knot : DM K "Diagrams" "_knot" "Diagrams._knot" s_Diagrams_p_knot
  d_Diagrams_bit : DM K "Diagrams" "bit" "Diagrams.bit" s_Diagrams_bit
  d_L_bit : DX K mg "_law_bit" s_L_bit
  d_Diagrams_p_side : DM K "Diagrams" "_side" "Diagrams._side" s_Diagrams_p_side
  d_Diagrams_p_choice : DM K "Diagrams" "_choice" "Diagrams._choice" s_Diagrams_p_choice
  d_p_known_by_rule : DX K mg "_known_by_rule" s_p_known_by_rule
  d_Diagrams_p_made : DM K "Diagrams" "_made" "Diagrams._made" s_Diagrams_p_made
  d_Diagrams_p_whole : DM K "Diagrams" "_whole" "Diagrams._whole" s_Diagrams_p_whole
  d_Diagrams_both : DM K "Diagrams" "both" "Diagrams.both" s_Diagrams_both
  d_Diagrams_either : DM K "Diagrams" "either" "Diagrams.either" s_Diagrams_either
  d_Diagrams_unlike : DM K "Diagrams" "unlike" "Diagrams.unlike" s_Diagrams_unlike
  d_Diagrams_turned : DM K "Diagrams" "turned" "Diagrams.turned" s_Diagrams_turned
  d_Diagrams_chosen : DM K "Diagrams" "chosen" "Diagrams.chosen" s_Diagrams_chosen
  d_Diagrams_choice : DM K "Diagrams" "choice" "Diagrams.choice" s_Diagrams_choice
  d_L_made : DX K mg "_law_made" s_L_made
  d_Diagrams_beyond : DM K "Diagrams" "beyond" "Diagrams.beyond" s_Diagrams_beyond
  d_Diagrams_told : DM K "Diagrams" "told" "Diagrams.told" s_Diagrams_told
  d_Diagrams_way : DM K "Diagrams" "way" "Diagrams.way" s_Diagrams_way
  d_L_right : DX K mg "_law_right" s_L_right
  d_L_full : DX K mg "_law_full" s_L_full
  d_L_cell : DX K mg "_law_cell" s_L_cell
  d_law : DX K mg "law" s_law
  g_Diagrams : mg "Diagrams" = some (.ref (He.ga K "Diagrams"))
  k_Diagrams : Cls K (He.ga K "Diagrams")
  i_Diagrams : Mk K (He.ga K "Diagrams") (He.ma K (He.ga K "Diagrams") "__init__")
  g_BadDoors : mg "BadDoors" = some (.ref (He.ga K "BadDoors"))
  g_BadNet : mg "BadNet" = some (.ref (He.ga K "BadNet"))
  g_TooMany : mg "TooMany" = some (.ref (He.ga K "TooMany"))
  g_YardError : mg "YardError" = some (.ref (He.ga K "YardError"))
  h_Diagrams_p_choice : Meth K (He.ga K "Diagrams") "_choice" (He.ma K (He.ga K "Diagrams") "_choice")
  h_Diagrams_p_knot : Meth K (He.ga K "Diagrams") "_knot" (He.ma K (He.ga K "Diagrams") "_knot")
  h_Diagrams_p_made : Meth K (He.ga K "Diagrams") "_made" (He.ma K (He.ga K "Diagrams") "_made")
  h_Diagrams_p_side : Meth K (He.ga K "Diagrams") "_side" (He.ma K (He.ga K "Diagrams") "_side")
  h_Diagrams_p_whole : Meth K (He.ga K "Diagrams") "_whole" (He.ma K (He.ga K "Diagrams") "_whole")
  h_Diagrams_beyond : Meth K (He.ga K "Diagrams") "beyond" (He.ma K (He.ga K "Diagrams") "beyond")
  h_Diagrams_bit : Meth K (He.ga K "Diagrams") "bit" (He.ma K (He.ga K "Diagrams") "bit")
  h_Diagrams_both : Meth K (He.ga K "Diagrams") "both" (He.ma K (He.ga K "Diagrams") "both")
  h_Diagrams_choice : Meth K (He.ga K "Diagrams") "choice" (He.ma K (He.ga K "Diagrams") "choice")
  h_Diagrams_chosen : Meth K (He.ga K "Diagrams") "chosen" (He.ma K (He.ga K "Diagrams") "chosen")
  h_Diagrams_either : Meth K (He.ga K "Diagrams") "either" (He.ma K (He.ga K "Diagrams") "either")
  h_Diagrams_how_many : Meth K (He.ga K "Diagrams") "how_many" (He.ma K (He.ga K "Diagrams") "how_many")
  h_Diagrams_told : Meth K (He.ga K "Diagrams") "told" (He.ma K (He.ga K "Diagrams") "told")
  h_Diagrams_turned : Meth K (He.ga K "Diagrams") "turned" (He.ma K (He.ga K "Diagrams") "turned")
  h_Diagrams_unlike : Meth K (He.ga K "Diagrams") "unlike" (He.ma K (He.ga K "Diagrams") "unlike")
  h_Diagrams_way : Meth K (He.ga K "Diagrams") "way" (He.ma K (He.ga K "Diagrams") "way")
  a_Diagrams_bits : NoAttr K (He.ga K "Diagrams") "bits"
  a_Diagrams_highs : NoAttr K (He.ga K "Diagrams") "highs"
  a_Diagrams_known : NoAttr K (He.ga K "Diagrams") "known"
  a_Diagrams_lows : NoAttr K (He.ga K "Diagrams") "lows"
  a_Diagrams_most : NoAttr K (He.ga K "Diagrams") "most"
  a_Diagrams_places : NoAttr K (He.ga K "Diagrams") "places"
  a_Diagrams_ways : NoAttr K (He.ga K "Diagrams") "ways"
  a_Diagrams_whole : NoAttr K (He.ga K "Diagrams") "whole"
  x_TooMany : ZZ.ExcK K (He.ga K "TooMany")
  m_TooMany_YardError : PySem.W.exmOne K (.ref (He.ga K "TooMany")) (.ref (He.ga K "YardError")) = some true
  kx : ZZ.Kinds K ["TooMany"] ["TooMany", "BadNet", "BadDoors"]
  n_bool : mg "bool" = none
  n_enumerate : mg "enumerate" = none
  n_int : mg "int" = none
  n_isinstance : mg "isinstance" = none
  n_len : mg "len" = none
  n_max : mg "max" = none
  n_min : mg "min" = none
  n_range : mg "range" = none
  n_set : mg "set" = none
  n_sum : mg "sum" = none
  n_tuple : mg "tuple" = none
  c_NO_BIT : ∃ u, mg "NO_BIT" = some u ∧ RelV (.int 1000000) u
section
variable {P : Program} {w : World} {K : PySem.W.Frag} {mg : Str → Option Value} {base : Heap}
theorem ok_Diagrams_init (T : Tx K mg) : ZDN.CalId P w K mg base 1 "Diagrams" (He.ga K "Diagrams") (.int 2000) (sp_Diagrams_init K w P) :=
  ZDN.calId_mk (t := (rd_Diagrams_init K w P)) (n := 1) T.i_Diagrams T.g_Diagrams T.d_Diagrams_init sc_Diagrams_init (fun _ _ _ _ _ _ _ us its hl h1 => match us, its, hl, h1 with | [_, _], [_], _, _ => ⟨_, rfl, rfl⟩) (fun _ _ _ _ _ _ _ us its hl h1 => match us, its, hl, h1 with | [_], [_], _, _ => ⟨_, rfl, rfl⟩) rfl len_Diagrams_init
    (fun f cdv A outer s H E hr => (pss_cons (ps_fld (pv 0) (pv 1) (by rfl))
    (pss_cons (ps_fld (pv 0) pe_int (by rfl))
    (pss_cons (ps_fld (pv 0) (pe_lst (pa_cons (pe_gc (by rfl) T.c_NO_BIT) (pa_cons (pe_gc (by rfl) T.c_NO_BIT) pa_nil))) (by rfl))
    (pss_cons (ps_fld (pv 0) (pe_lst (pa_cons pe_int (pa_cons pe_int pa_nil))) (by rfl))
    (pss_cons (ps_fld (pv 0) (pe_lst (pa_cons pe_int (pa_cons pe_int pa_nil))) (by rfl))
    (pss_cons (ps_fld (pv 0) (pe_lst (pa_cons pe_non (pa_cons pe_int pa_nil))) (by rfl))
    (pss_cons (ps_fld (pv 0) pe_dnewT (by rfl))
    (pss_one (ps_fld (pv 0) ZDN.pe_nnew (by rfl)))))))))))
    (fun vs H Q E h => vr_Diagrams_init T.k_Diagrams T.a_Diagrams_bits T.a_Diagrams_highs T.a_Diagrams_known T.a_Diagrams_lows T.a_Diagrams_most T.a_Diagrams_places T.a_Diagrams_ways T.a_Diagrams_whole vs H Q E h)
theorem ok_Diagrams_how_many (T : Tx K mg) : CalM P w K mg base 1 (He.ga K "Diagrams") "how_many" (sp_Diagrams_how_many K w P) :=
  calM_mk (t := (rd_Diagrams_how_many K)) T.k_Diagrams T.h_Diagrams_how_many T.d_Diagrams_how_many sc_Diagrams_how_many (fun _ _ _ _ _ _ us hl => match us, hl with | [_], _ => rfl) len_Diagrams_how_many
    (fun f cdv A outer s H E hr => (pss_one (ps_ret (pe_op op_sub (pe_callB call_len_seq (by rfl) T.n_len (by decide +kernel) (pa_cons (pe_fld (pv 0) (by rfl)) pa_nil)) pe_int))))
    (fun vs H Q E h => vr_Diagrams_how_many T.k_Diagrams T.a_Diagrams_bits vs H Q E h)
theorem ok_L_mixed (T : Tx K mg) : Cal P w K mg base 1 "_law_mixed" sp_L_mixed :=
  cal_mk (t := rd_L_mixed) T.d_L_mixed sc_L_mixed (fun _ _ _ _ _ _ us hl => match us, hl with | [_, _], _ => rfl) len_L_mixed
    (fun f cdv A outer s H E hr => (pss_one (ps_ret (pe_op op_fdiv (pe_op op_mod (pe_op op_mul (pe_op op_mod (pe_op op_mul (pe_op op_add (pe_op op_add (pe_op op_add (pv 0) (pe_op op_mul (pe_op op_mul pe_int (pv 1)) (pv 1))) (pe_op op_mul pe_int (pv 1))) pe_int) pe_int) pe_int) pe_int) pe_int) pe_int))))
    (fun vs H Q E h => vr_L_mixed vs H Q E h)
theorem ok_p_way_by (T : Tx K mg) : Cal P w K mg base 1 "_way_by" sp_p_way_by :=
  cal_mk (t := rd_p_way_by) T.d_p_way_by sc_p_way_by (fun _ _ _ _ _ _ us hl => match us, hl with | [_, _, _], _ => rfl) len_p_way_by
    (fun f cdv A outer s H E hr => (pss_cons (ps_if (pt_cmp (pc_isN (pv 2))) (pss_one (ps_ret (pv 1)))
    pss_nil)
    (pss_cons (ps_if (pt_cmp (pc_isN (pv 1))) (pss_one (ps_ret (pe_op op_add (pv 2) (pe_op op_shlW pe_int (pv 0)))))
    pss_nil)
    (pss_one (ps_ret (pe_callB (call_min2 rfl) (by rfl) T.n_min (by decide +kernel) (pa_cons (pv 1) (pa_cons (pe_op op_add (pv 2) (pe_op op_shlW pe_int (pv 0))) pa_nil))))))))
    (fun vs H Q E h => vr_p_way_by vs H Q E h)
theorem ok_Diagrams_p_knot (T : Tx K mg) : ZE.CalMX P w K mg base 2 (He.ga K "Diagrams") "_knot" (sp_Diagrams_p_knot K w P) :=
  ZZ.calMX_mk (t := (fun E => rd_Diagrams_p_knot K w P E)) T.k_Diagrams T.h_Diagrams_p_knot T.d_Diagrams_p_knot sc_Diagrams_p_knot (fun _ _ _ _ _ _ us hl => match us, hl with | [_, _, _, _], _ => rfl) len_Diagrams_p_knot
    (fun f cdv A outer s H E hr => (pss_cons (ps_if (pt_cmpR op_eq (pv 2) (pv 3) (nomark _)) (pss_one (ps_ret (pv 2)))
    pss_nil)
    (pss_cons (ps_if (pt_cmp (pc_dnotin (hu_of hr) (pe_tup (pa_cons (pv 1) (pa_cons (pv 2) (pa_cons (pv 3) pa_nil)))) (pe_fld (pv 0) (by rfl)))) (pss_cons (ps_if (pt_cmpR op_ge (pe_m0 (ok_Diagrams_how_many T) hr (by decide) (pv 0)) (pe_fld (pv 0) (by rfl)) (nomark _)) (pss_one (ZZ.ps_rz rfl (takes_of rfl rfl rfl rfl) T.x_TooMany T.g_TooMany (by rfl) (pa_cons (ZZ.pe_fs (PJ.cons pe_str (PJ.cons (pe_fmt (pe_fld (pv 0) (by rfl))) (PJ.cons pe_str PJ.nil)))) pa_nil)))
    pss_nil)
    (pss_cons (ps_dput (hu_of hr) (pe_fld (pv 0) (by rfl)) (pe_tup (pa_cons (pv 1) (pa_cons (pv 2) (pa_cons (pv 3) pa_nil)))) (pe_callB call_len_seq (by rfl) T.n_len (by decide +kernel) (pa_cons (pe_fld (pv 0) (by rfl)) pa_nil)) rfl)
    (pss_cons (ps_expr (pe_bm PySem.F.plainAttrs_list PySem.F.slot_list_append PySem.F.type_list_append mt_append (pe_fld (pv 0) (by rfl)) (pa_cons (pv 1) pa_nil)))
    (pss_cons (ps_expr (pe_bm PySem.F.plainAttrs_list PySem.F.slot_list_append PySem.F.type_list_append mt_append (pe_fld (pv 0) (by rfl)) (pa_cons (pv 2) pa_nil)))
    (pss_cons (ps_expr (pe_bm PySem.F.plainAttrs_list PySem.F.slot_list_append PySem.F.type_list_append mt_append (pe_fld (pv 0) (by rfl)) (pa_cons (pv 3) pa_nil)))
    (pss_one (ps_expr (pe_bm PySem.F.plainAttrs_list PySem.F.slot_list_append PySem.F.type_list_append mt_append (pe_fld (pv 0) (by rfl)) (pa_cons (pe_c (ok_p_way_by T) hr (by decide) (by rfl) (pa_cons (pv 1) (pa_cons (pe_ix ix_list (pe_fld (pv 0) (by rfl)) (pv 2) (fun _ _ => rfl)) (pa_cons (pe_ix ix_list (pe_fld (pv 0) (by rfl)) (pv 3) (fun _ _ => rfl)) pa_nil)))) pa_nil)))))))))
    pss_nil)
    (pss_one (ps_ret (pe_dget (hu_of hr) (pe_fld (pv 0) (by rfl)) (pe_tup (pa_cons (pv 1) (pa_cons (pv 2) (pa_cons (pv 3) pa_nil)))) (fun _ _ => rfl)))))))
    (fun vs H Q E h => vr_Diagrams_p_knot T.k_Diagrams T.a_Diagrams_bits T.a_Diagrams_highs T.a_Diagrams_lows T.a_Diagrams_most T.a_Diagrams_places T.a_Diagrams_ways vs H Q E h)
theorem ok_Diagrams_bit (T : Tx K mg) : ZE.CalMX P w K mg base 3 (He.ga K "Diagrams") "bit" (sp_Diagrams_bit K w P) :=
  ZZ.calMX_mk (t := (fun E => rd_Diagrams_bit K w P E)) T.k_Diagrams T.h_Diagrams_bit T.d_Diagrams_bit sc_Diagrams_bit (fun _ _ _ _ _ _ us hl => match us, hl with | [_, _], _ => rfl) len_Diagrams_bit
    (fun f cdv A outer s H E hr => (pss_one (ps_ret (ZE.pe_mx (ok_Diagrams_p_knot T) (ZZ.outX (takes_of rfl rfl rfl rfl)) hr (by decide) (pv 0) (pa_cons (pv 1) (pa_cons pe_int (pa_cons pe_int pa_nil)))))))
    (fun vs H Q E h => vr_Diagrams_bit vs H Q E h)
theorem ok_L_bit (T : Tx K mg) : Cal P w K mg base 1 "_law_bit" sp_L_bit :=
  cal_mk (t := (rd_L_bit K)) T.d_L_bit sc_L_bit (fun _ _ _ _ _ _ us hl => match us, hl with | [_], _ => rfl) len_L_bit
    (fun f cdv A outer s H E hr => (pss_one (ps_ret (pe_callB (cr_sum rfl) (by rfl) T.n_sum (by decide +kernel) (pa_cons (pe_lc (own := [("_law_word_here", 1)]) (g := (gName 1)) (tt := (tTest (tOp rEq (tOp rAndI (tOp rShrI (tVar 1) (tVar 0)) (tC (.int 1))) (tC (.int 1))))) rfl sc_L_bit.nd (pi_range1 (by rfl) T.n_range (pa_cons pe_int pa_nil)) (blkOk_by (N := ["_law_place", "_law_word_here"]) (sc := defScope s_L_bit) (by decide +kernel)) (fun _ _ _ _ _ => (pg_name (i := 1) sc_L_bit.nd rfl (.inl rfl))) (fun _ _ _ _ _ => (pts_one (pt_cmpR op_eq (pe_op op_and (pe_op op_shr (pv 1) (pv 0)) pe_int) pe_int (nomark _)))) (fun _ _ _ _ _ => (pe_op op_shlW pe_int (pv 1)))) pa_nil)))))
    (fun vs H Q E h => vr_L_bit vs H Q E h)
theorem ok_Diagrams_p_side (T : Tx K mg) : CalM P w K mg base 1 (He.ga K "Diagrams") "_side" (sp_Diagrams_p_side K w P) :=
  calM_mk (t := (rd_Diagrams_p_side K)) T.k_Diagrams T.h_Diagrams_p_side T.d_Diagrams_p_side sc_Diagrams_p_side (fun _ _ _ _ _ _ us hl => match us, hl with | [_, _, _, _], _ => rfl) len_Diagrams_p_side
    (fun f cdv A outer s H E hr => (pss_cons (ps_if (pt_cmpR op_ne (pe_ix ix_list (pe_fld (pv 0) (by rfl)) (pv 1) (fun _ _ => rfl)) (pv 2) (nomark _)) (pss_one (ps_ret (pv 1)))
    pss_nil)
    (pss_one (ps_ret (pe_ifExp (pt_cmpR op_eq (pv 3) pe_int (nomark _)) (pe_ix ix_list (pe_fld (pv 0) (by rfl)) (pv 1) (fun _ _ => rfl)) (pe_ix ix_list (pe_fld (pv 0) (by rfl)) (pv 1) (fun _ _ => rfl)))))))
    (fun vs H Q E h => vr_Diagrams_p_side T.k_Diagrams T.a_Diagrams_bits T.a_Diagrams_highs T.a_Diagrams_lows vs H Q E h)
theorem okr_Diagrams_p_choice (T : Tx K mg) : ∀ n : Nat, CalM P w K mg base (2 + 1 * n) (He.ga K "Diagrams") "_choice" (sp_Diagrams_p_choice K w P n)
  | 0 => ZU.calM_no (ps := ["self", "bit", "low", "high"]) T.k_Diagrams T.h_Diagrams_p_choice T.d_Diagrams_p_choice (fun _ _ _ _ _ _ us hl => match us, hl with | [_, _, _, _], _ => rfl) no_Diagrams_p_choice
  | n + 1 => by
    have r_Diagrams_p_choice := okr_Diagrams_p_choice T n
    exact (calM_mk (k := 2 + 1 * n + 0) (t := (rd_Diagrams_p_choice K w P (sp_Diagrams_p_choice K w P n))) T.k_Diagrams T.h_Diagrams_p_choice T.d_Diagrams_p_choice sc_Diagrams_p_choice (fun _ _ _ _ _ _ us hl => match us, hl with | [_, _, _, _], _ => rfl) (len_Diagrams_p_choice)
    (fun f cdv A outer s H E hr => (pss_cons (ps_set (i := 4) sc_Diagrams_p_choice.nd rfl (.inl rfl) (pe_callB (call_min3Nu rfl) (by rfl) T.n_min (by decide +kernel) (pa_cons (pv 1) (pa_cons (pe_ix ix_list (pe_fld (pv 0) (by rfl)) (pv 2) (fun _ _ => rfl)) (pa_cons (pe_ix ix_list (pe_fld (pv 0) (by rfl)) (pv 3) (fun _ _ => rfl)) pa_nil)))))
    (pss_cons (ps_set (i := 5) sc_Diagrams_p_choice.nd rfl (.inl rfl) (pe_tup (pa_cons (pe_m (ok_Diagrams_p_side T) hr (by omega) (pv 0) (pa_cons (pv 2) (pa_cons (pv 4) (pa_cons pe_int pa_nil)))) (pa_cons (pe_m (ok_Diagrams_p_side T) hr (by omega) (pv 0) (pa_cons (pv 3) (pa_cons (pv 4) (pa_cons pe_int pa_nil)))) pa_nil))))
    (pss_cons (ps_set (i := 6) sc_Diagrams_p_choice.nd rfl (.inl rfl) (pe_tup (pa_cons (pe_m (ok_Diagrams_p_side T) hr (by omega) (pv 0) (pa_cons (pv 2) (pa_cons (pv 4) (pa_cons pe_int pa_nil)))) (pa_cons (pe_m (ok_Diagrams_p_side T) hr (by omega) (pv 0) (pa_cons (pv 3) (pa_cons (pv 4) (pa_cons pe_int pa_nil)))) pa_nil))))
    (pss_cons (ps_if (pt_cmpR op_eq (pv 4) (pv 1) (nomark _)) (pss_one (ps_ret (ZE.pe_mx (ok_Diagrams_p_knot T) (ZZ.outX takes0) hr (by omega) (pv 0) (pa_cons (pv 1) (pa_cons (pe_ix ix_tup (pv 5) pe_int (fun _ _ => rfl)) (pa_cons (pe_ix ix_tup (pv 6) pe_int (fun _ _ => rfl)) pa_nil))))))
    pss_nil)
    (pss_one (ps_ret (ZE.pe_mx (ok_Diagrams_p_knot T) (ZZ.outX takes0) hr (by omega) (pv 0) (pa_cons (pv 4) (pa_cons (pe_m r_Diagrams_p_choice hr (by omega) (pv 0) (pa_cons (pv 1) (pa_cons (pe_ix ix_tup (pv 5) pe_int (fun _ _ => rfl)) (pa_cons (pe_ix ix_tup (pv 5) pe_int (fun _ _ => rfl)) pa_nil)))) (pa_cons (pe_m r_Diagrams_p_choice hr (by omega) (pv 0) (pa_cons (pv 1) (pa_cons (pe_ix ix_tup (pv 6) pe_int (fun _ _ => rfl)) (pa_cons (pe_ix ix_tup (pv 6) pe_int (fun _ _ => rfl)) pa_nil)))) pa_nil)))))))))))
    (fun vs H Q E h => vr_Diagrams_p_choice n T.k_Diagrams T.a_Diagrams_bits vs H Q E h))
theorem ok_Diagrams_p_choice (T : Tx K mg) : CalM P w K mg base 9 (He.ga K "Diagrams") "_choice" (sp_Diagrams_p_choice K w P 7) := okr_Diagrams_p_choice T 7
theorem ok_p_known_by_rule (T : Tx K mg) : Cal P w K mg base 1 "_known_by_rule" (sp_p_known_by_rule K) :=
  cal_mk (t := (rd_p_known_by_rule K)) T.d_p_known_by_rule sc_p_known_by_rule (fun _ _ _ _ _ _ us hl => match us, hl with | [_, _], _ => rfl) len_p_known_by_rule
    (fun f cdv A outer s H E hr => (pss_cons (ps_if (pt_cmpR op_eq (pv 0) pe_str (nomark _)) (pss_cons (ps_asg (pv 1) (pg_tup rfl (pgs_cons (pg_name (i := 2) sc_p_known_by_rule.nd rfl (.inl rfl)) (pgs_cons (pg_name (i := 3) sc_p_known_by_rule.nd rfl (.inl rfl)) pgs_nil))))
    (pss_cons (ps_if (pt_cmpR op_eq (pv 2) (pv 3) (nomark _)) (pss_one (ps_ret pe_int))
    pss_nil)
    (pss_cons (ps_if (pt_cmpR op_eq (pv 3) pe_int (nomark _)) (pss_one (ps_ret (pv 2)))
    pss_nil)
    (pss_one (ps_ret (pe_ifExp (pt_cmpR op_eq (pv 2) pe_int (nomark _)) (pv 3) pe_non))))))
    pss_nil)
    (pss_cons (ps_asg (pv 1) (pg_tup rfl (pgs_cons (pg_name (i := 4) sc_p_known_by_rule.nd rfl (.inl rfl)) (pgs_cons (pg_name (i := 2) sc_p_known_by_rule.nd rfl (.inl rfl)) (pgs_cons (pg_name (i := 3) sc_p_known_by_rule.nd rfl (.inl rfl)) pgs_nil)))))
    (pss_cons (ps_if (PW.pt (pw_or (pt_cmpR op_eq (pv 4) pe_int (nomark _)) (pw_or1 (pt_cmpR op_eq (pv 2) (pv 3) (nomark _))))) (pss_one (ps_ret (pv 2)))
    pss_nil)
    (pss_cons (ps_if (pt_cmpR op_eq (pv 4) pe_int (nomark _)) (pss_one (ps_ret (pv 3)))
    pss_nil)
    (pss_cons (ps_if (PW.pt (pw_and (pt_cmpR op_eq (pv 3) pe_int (nomark _)) (pw_and1 (pt_cmpR op_in_seq (pv 2) (pe_tup (pa_cons pe_int (pa_cons (pv 4) pa_nil))) (by with_unfolding_all rfl))))) (pss_one (ps_ret (pv 4)))
    pss_nil)
    (pss_one (ps_ret (pe_ifExp (PW.pt (pw_and (pt_cmpR op_eq (pv 2) pe_int (nomark _)) (pw_and1 (pt_cmpR op_eq (pv 4) (pv 3) (nomark _))))) (pv 3) pe_non)))))))))
    (fun vs H Q E h => vr_p_known_by_rule vs H Q E h)
theorem okr_Diagrams_p_made (T : Tx K mg) : ∀ n : Nat, CalM P w K mg base (9 + 1 * n) (He.ga K "Diagrams") "_made" (sp_Diagrams_p_made K w P n)
  | 0 => ZU.calM_no (ps := ["self", "kind", "knots"]) T.k_Diagrams T.h_Diagrams_p_made T.d_Diagrams_p_made (fun _ _ _ _ _ _ us hl => match us, hl with | [_, _, _], _ => rfl) no_Diagrams_p_made
  | n + 1 => by
    have r_Diagrams_p_made := okr_Diagrams_p_made T n
    exact (calM_mk (k := 9 + 1 * n + 0) (t := (rd_Diagrams_p_made K w P (sp_Diagrams_p_made K w P n))) T.k_Diagrams T.h_Diagrams_p_made T.d_Diagrams_p_made sc_Diagrams_p_made (fun _ _ _ _ _ _ us hl => match us, hl with | [_, _, _], _ => rfl) (len_Diagrams_p_made)
    (fun f cdv A outer s H E hr => (pss_cons (ps_if (pt_cmpR op_eq (pv 1) pe_str (nomark _)) (pss_one (ps_ret (pe_m (ok_Diagrams_p_choice T) hr (by omega) (pv 0) (pa_cons (pe_ix ix_tup (pv 2) pe_int (fun _ _ => rfl)) (pa_cons (pe_ix ix_tup (pv 2) pe_int (fun _ _ => rfl)) (pa_cons (pe_ix ix_tup (pv 2) pe_int (fun _ _ => rfl)) pa_nil))))))
    pss_nil)
    (pss_cons (ps_set (i := 3) sc_Diagrams_p_made.nd rfl (.inl rfl) (pe_c (ok_p_known_by_rule T) hr (by omega) (by rfl) (pa_cons (pv 1) (pa_cons (pv 2) pa_nil))))
    (pss_cons (ps_if (pt_cmp (pc_notN (pv 3))) (pss_one (ps_ret (pv 3)))
    pss_nil)
    (pss_cons (ps_if (pt_cmp (ZDN.pc_nnotin (hu64 hr) (pe_tup (pa_cons (pv 1) (pa_cons (pv 2) pa_nil))) (pe_fld (pv 0) (by rfl)))) (pss_cons (ps_set (i := 4) sc_Diagrams_p_made.nd rfl (.inr rfl) (pe_callB (cr_min rfl) (by rfl) T.n_min (by decide +kernel) (pa_cons (pe_lc (own := [("knot", 7)]) (g := (gName 7)) (tt := tYes) rfl sc_Diagrams_p_made.nd (pi_tup (pv 2)) (blkOk_by (N := ["self", "kind", "knots", "plain", "bit", "low", "high", "knot"]) (sc := defScope s_Diagrams_p_made) (by decide +kernel)) (fun _ _ _ _ _ => (pg_name (i := 7) sc_Diagrams_p_made.nd rfl (.inl rfl))) (fun _ _ _ _ _ => pts_nil) (fun _ _ _ _ _ => (pe_ix ix_list (pe_fld (pv 0) (by rfl)) (pv 7) (fun _ _ => rfl)))) pa_nil)))
    (pss_cons (ps_set (i := 5) sc_Diagrams_p_made.nd rfl (.inl rfl) (pe_m r_Diagrams_p_made hr (by omega) (pv 0) (pa_cons (pv 1) (pa_cons (pe_callTy call_tuple_of (by rfl) T.n_tuple (by decide +kernel) (pa_cons (pe_lc (own := [("knot", 7)]) (g := (gName 7)) (tt := tYes) rfl sc_Diagrams_p_made.nd (pi_tup (pv 2)) (blkOk_by (N := ["self", "kind", "knots", "plain", "bit", "low", "high", "knot"]) (sc := defScope s_Diagrams_p_made) (by decide +kernel)) (fun _ _ _ _ _ => (pg_name (i := 7) sc_Diagrams_p_made.nd rfl (.inl rfl))) (fun _ _ _ _ _ => pts_nil) (fun _ _ _ _ _ => (pe_m (ok_Diagrams_p_side T) hr (by omega) (pv 0) (pa_cons (pv 7) (pa_cons (pv 4) (pa_cons pe_int pa_nil)))))) pa_nil)) pa_nil))))
    (pss_cons (ps_set (i := 6) sc_Diagrams_p_made.nd rfl (.inl rfl) (pe_m r_Diagrams_p_made hr (by omega) (pv 0) (pa_cons (pv 1) (pa_cons (pe_callTy call_tuple_of (by rfl) T.n_tuple (by decide +kernel) (pa_cons (pe_lc (own := [("knot", 7)]) (g := (gName 7)) (tt := tYes) rfl sc_Diagrams_p_made.nd (pi_tup (pv 2)) (blkOk_by (N := ["self", "kind", "knots", "plain", "bit", "low", "high", "knot"]) (sc := defScope s_Diagrams_p_made) (by decide +kernel)) (fun _ _ _ _ _ => (pg_name (i := 7) sc_Diagrams_p_made.nd rfl (.inl rfl))) (fun _ _ _ _ _ => pts_nil) (fun _ _ _ _ _ => (pe_m (ok_Diagrams_p_side T) hr (by omega) (pv 0) (pa_cons (pv 7) (pa_cons (pv 4) (pa_cons pe_int pa_nil)))))) pa_nil)) pa_nil))))
    (pss_one (ZDN.ps_nput (hu64 hr) (pe_fld (pv 0) (by rfl)) (pe_tup (pa_cons (pv 1) (pa_cons (pv 2) pa_nil))) (ZE.pe_mx (ok_Diagrams_p_knot T) (ZZ.outX takes0) hr (by omega) (pv 0) (pa_cons (pv 4) (pa_cons (pv 5) (pa_cons (pv 6) pa_nil)))) rfl)))))
    pss_nil)
    (pss_one (ps_ret (ZDN.pe_nget (hu64 hr) (pe_fld (pv 0) (by rfl)) (pe_tup (pa_cons (pv 1) (pa_cons (pv 2) pa_nil))) (fun _ _ => rfl)))))))))
    (fun vs H Q E h => vr_Diagrams_p_made n T.k_Diagrams T.a_Diagrams_bits T.a_Diagrams_known vs H Q E h))
theorem ok_Diagrams_p_made (T : Tx K mg) : CalM P w K mg base 16 (He.ga K "Diagrams") "_made" (sp_Diagrams_p_made K w P 7) := okr_Diagrams_p_made T 7
theorem ok_Diagrams_p_whole (T : Tx K mg) : CalM P w K mg base 17 (He.ga K "Diagrams") "_whole" (sp_Diagrams_p_whole K w P) :=
  calM_mk (t := (rd_Diagrams_p_whole K w P)) T.k_Diagrams T.h_Diagrams_p_whole T.d_Diagrams_p_whole sc_Diagrams_p_whole (fun _ _ _ _ _ _ us hl => match us, hl with | [_, _, _], _ => rfl) len_Diagrams_p_whole
    (fun f cdv A outer s H E hr => (pss_cons (ps_set (i := 3) sc_Diagrams_p_whole.nd rfl (.inl rfl) (pe_callB call_len_seq (by rfl) T.n_len (by decide +kernel) (pa_cons (pe_fld (pv 0) (by rfl)) pa_nil)))
    (pss_one (ps_try_thru0 (pss_one (ps_ret (pe_m (ok_Diagrams_p_made T) hr (by decide) (pv 0) (pa_cons (pv 1) (pa_cons (pv 2) pa_nil)))))))))
    (fun vs H Q E h => vr_Diagrams_p_whole T.k_Diagrams T.a_Diagrams_bits vs H Q E h)
theorem ok_Diagrams_both (T : Tx K mg) : CalM P w K mg base 18 (He.ga K "Diagrams") "both" (sp_Diagrams_both K w P) :=
  calM_mk (t := (rd_Diagrams_both K w P)) T.k_Diagrams T.h_Diagrams_both T.d_Diagrams_both sc_Diagrams_both (fun _ _ _ _ _ _ us hl => match us, hl with | [_, _, _], _ => rfl) len_Diagrams_both
    (fun f cdv A outer s H E hr => (pss_one (ps_ret (pe_m (ok_Diagrams_p_whole T) hr (by decide) (pv 0) (pa_cons pe_str (pa_cons (pe_tup (pa_cons (pe_callB (call_min2 rfl) (by rfl) T.n_min (by decide +kernel) (pa_cons (pv 1) (pa_cons (pv 2) pa_nil))) (pa_cons (pe_callB (call_max2 rfl) (by rfl) T.n_max (by decide +kernel) (pa_cons (pv 1) (pa_cons (pv 2) pa_nil))) (pa_cons pe_int pa_nil)))) pa_nil))))))
    (fun vs H Q E h => vr_Diagrams_both vs H Q E h)
theorem ok_Diagrams_either (T : Tx K mg) : CalM P w K mg base 18 (He.ga K "Diagrams") "either" (sp_Diagrams_either K w P) :=
  calM_mk (t := (rd_Diagrams_either K w P)) T.k_Diagrams T.h_Diagrams_either T.d_Diagrams_either sc_Diagrams_either (fun _ _ _ _ _ _ us hl => match us, hl with | [_, _, _], _ => rfl) len_Diagrams_either
    (fun f cdv A outer s H E hr => (pss_one (ps_ret (pe_m (ok_Diagrams_p_whole T) hr (by decide) (pv 0) (pa_cons pe_str (pa_cons (pe_tup (pa_cons (pe_callB (call_min2 rfl) (by rfl) T.n_min (by decide +kernel) (pa_cons (pv 1) (pa_cons (pv 2) pa_nil))) (pa_cons pe_int (pa_cons (pe_callB (call_max2 rfl) (by rfl) T.n_max (by decide +kernel) (pa_cons (pv 1) (pa_cons (pv 2) pa_nil))) pa_nil)))) pa_nil))))))
    (fun vs H Q E h => vr_Diagrams_either vs H Q E h)
theorem ok_Diagrams_unlike (T : Tx K mg) : CalM P w K mg base 18 (He.ga K "Diagrams") "unlike" (sp_Diagrams_unlike K w P) :=
  calM_mk (t := (rd_Diagrams_unlike K w P)) T.k_Diagrams T.h_Diagrams_unlike T.d_Diagrams_unlike sc_Diagrams_unlike (fun _ _ _ _ _ _ us hl => match us, hl with | [_, _, _], _ => rfl) len_Diagrams_unlike
    (fun f cdv A outer s H E hr => (pss_one (ps_ret (pe_m (ok_Diagrams_p_whole T) hr (by decide) (pv 0) (pa_cons pe_str (pa_cons (pe_tup (pa_cons (pe_callB (call_min2 rfl) (by rfl) T.n_min (by decide +kernel) (pa_cons (pv 1) (pa_cons (pv 2) pa_nil))) (pa_cons (pe_callB (call_max2 rfl) (by rfl) T.n_max (by decide +kernel) (pa_cons (pv 1) (pa_cons (pv 2) pa_nil))) pa_nil))) pa_nil))))))
    (fun vs H Q E h => vr_Diagrams_unlike vs H Q E h)
theorem ok_Diagrams_turned (T : Tx K mg) : CalM P w K mg base 18 (He.ga K "Diagrams") "turned" (sp_Diagrams_turned K w P) :=
  calM_mk (t := (rd_Diagrams_turned K w P)) T.k_Diagrams T.h_Diagrams_turned T.d_Diagrams_turned sc_Diagrams_turned (fun _ _ _ _ _ _ us hl => match us, hl with | [_, _], _ => rfl) len_Diagrams_turned
    (fun f cdv A outer s H E hr => (pss_one (ps_ret (pe_m (ok_Diagrams_p_whole T) hr (by decide) (pv 0) (pa_cons pe_str (pa_cons (pe_tup (pa_cons (pe_callB (call_min2 rfl) (by rfl) T.n_min (by decide +kernel) (pa_cons (pv 1) (pa_cons pe_int pa_nil))) (pa_cons (pe_callB (call_max2 rfl) (by rfl) T.n_max (by decide +kernel) (pa_cons (pv 1) (pa_cons pe_int pa_nil))) pa_nil))) pa_nil))))))
    (fun vs H Q E h => vr_Diagrams_turned vs H Q E h)
theorem ok_Diagrams_chosen (T : Tx K mg) : CalM P w K mg base 18 (He.ga K "Diagrams") "chosen" (sp_Diagrams_chosen K w P) :=
  calM_mk (t := (rd_Diagrams_chosen K w P)) T.k_Diagrams T.h_Diagrams_chosen T.d_Diagrams_chosen sc_Diagrams_chosen (fun _ _ _ _ _ _ us hl => match us, hl with | [_, _, _, _], _ => rfl) len_Diagrams_chosen
    (fun f cdv A outer s H E hr => (pss_one (ps_ret (pe_m (ok_Diagrams_p_whole T) hr (by decide) (pv 0) (pa_cons pe_str (pa_cons (pe_tup (pa_cons (pv 1) (pa_cons (pv 2) (pa_cons (pv 3) pa_nil)))) pa_nil))))))
    (fun vs H Q E h => vr_Diagrams_chosen vs H Q E h)
theorem ok_Diagrams_choice (T : Tx K mg) : CalM P w K mg base 18 (He.ga K "Diagrams") "choice" (sp_Diagrams_choice K w P) :=
  calM_mk (t := (rd_Diagrams_choice K w P)) T.k_Diagrams T.h_Diagrams_choice T.d_Diagrams_choice sc_Diagrams_choice (fun _ _ _ _ _ _ us hl => match us, hl with | [_, _, _, _], _ => rfl) len_Diagrams_choice
    (fun f cdv A outer s H E hr => (pss_one (ps_ret (pe_m (ok_Diagrams_p_whole T) hr (by decide) (pv 0) (pa_cons pe_str (pa_cons (pe_tup (pa_cons (pv 1) (pa_cons (pv 2) (pa_cons (pv 3) pa_nil)))) pa_nil))))))
    (fun vs H Q E h => vr_Diagrams_choice vs H Q E h)
theorem ok_L_made (T : Tx K mg) : Cal P w K mg base 19 "_law_made" (sp_L_made K w P) :=
  cal_mk (t := (rd_L_made K w P)) T.d_L_made sc_L_made (fun _ _ _ _ _ _ us hl => match us, hl with | [_, _, _], _ => rfl) len_L_made
    (fun f cdv A outer s H E hr => (pss_cons (ps_asg (pe_tup (pa_cons (pe_op op_mod (pv 2) pe_int) (pa_cons (pe_op op_fdiv (pv 2) pe_int) pa_nil))) (pg_tup rfl (pgs_cons (pg_name (i := 3) sc_L_made.nd rfl (.inl rfl)) (pgs_cons (pg_name (i := 4) sc_L_made.nd rfl (.inr rfl)) pgs_nil))))
    (pss_cons (ps_asg (pe_lc (own := [("_law_k", 13)]) (g := (gName 13)) (tt := tYes) rfl sc_L_made.nd (pi_range1 (by rfl) T.n_range (pa_cons pe_int pa_nil)) (blkOk_by (N := ["_law_diagram", "_law_pairs", "_law_number", "_law_way", "_law_more", "_law_one", "_law_other", "_law_third", "_law_whole", "_law_due", "_law_low", "_law_high", "_law_place", "_law_k"]) (sc := defScope s_L_made) (by decide +kernel)) (fun _ _ _ _ _ => (pg_name (i := 13) sc_L_made.nd rfl (.inl rfl))) (fun _ _ _ _ _ => pts_nil) (fun _ _ _ _ _ => (pe_ix ix_list (pv 1) (pe_op op_mod (pe_c (ok_L_mixed T) hr (by decide) (by rfl) (pa_cons (pv 4) (pa_cons (pv 13) pa_nil))) (pe_callB call_len_seq (by rfl) T.n_len (by decide +kernel) (pa_cons (pv 1) pa_nil))) (fun _ _ => rfl)))) (pg_lst rfl (pgs_cons (pg_name (i := 5) sc_L_made.nd rfl (.inl rfl)) (pgs_cons (pg_name (i := 6) sc_L_made.nd rfl (.inl rfl)) (pgs_cons (pg_name (i := 7) sc_L_made.nd rfl (.inl rfl)) pgs_nil)))))
    (pss_cons (ps_set (i := 8) sc_L_made.nd rfl (.inl rfl) (pe_op op_sub (pe_op op_shlW pe_int pe_int) pe_int))
    (pss_cons (ps_if (pt_cmpR op_lt (pv 3) pe_int (nomark _)) (pss_one (ps_ret (pe_tup (pa_cons (ZE.pe_mx (ok_Diagrams_bit T) (ZZ.outX takes0) hr (by decide) (pv 0) (pa_cons (pe_op op_mod (pv 4) pe_int) pa_nil)) (pa_cons (pe_c (ok_L_bit T) hr (by decide) (by rfl) (pa_cons (pe_op op_mod (pv 4) pe_int) pa_nil)) pa_nil)))))
    pss_nil)
    (pss_cons (ps_if (pt_cmpR op_eq (pv 3) pe_int (nomark _)) (pss_one (ps_ret (pe_tup (pa_cons (pe_m (ok_Diagrams_both T) hr (by decide) (pv 0) (pa_cons (pe_ix ix_tup (pv 5) pe_int (fun _ _ => rfl)) (pa_cons (pe_ix ix_tup (pv 6) pe_int (fun _ _ => rfl)) pa_nil))) (pa_cons (pe_op op_and (pe_ix ix_tup (pv 5) pe_int (fun _ _ => rfl)) (pe_ix ix_tup (pv 6) pe_int (fun _ _ => rfl))) pa_nil)))))
    pss_nil)
    (pss_cons (ps_if (pt_cmpR op_eq (pv 3) pe_int (nomark _)) (pss_one (ps_ret (pe_tup (pa_cons (pe_m (ok_Diagrams_either T) hr (by decide) (pv 0) (pa_cons (pe_ix ix_tup (pv 5) pe_int (fun _ _ => rfl)) (pa_cons (pe_ix ix_tup (pv 6) pe_int (fun _ _ => rfl)) pa_nil))) (pa_cons (pe_op op_or (pe_ix ix_tup (pv 5) pe_int (fun _ _ => rfl)) (pe_ix ix_tup (pv 6) pe_int (fun _ _ => rfl))) pa_nil)))))
    pss_nil)
    (pss_cons (ps_if (pt_cmpR op_eq (pv 3) pe_int (nomark _)) (pss_one (ps_ret (pe_tup (pa_cons (pe_m (ok_Diagrams_unlike T) hr (by decide) (pv 0) (pa_cons (pe_ix ix_tup (pv 5) pe_int (fun _ _ => rfl)) (pa_cons (pe_ix ix_tup (pv 6) pe_int (fun _ _ => rfl)) pa_nil))) (pa_cons (pe_op op_xor (pe_ix ix_tup (pv 5) pe_int (fun _ _ => rfl)) (pe_ix ix_tup (pv 6) pe_int (fun _ _ => rfl))) pa_nil)))))
    pss_nil)
    (pss_cons (ps_if (pt_cmpR op_eq (pv 3) pe_int (nomark _)) (pss_one (ps_ret (pe_tup (pa_cons (pe_m (ok_Diagrams_turned T) hr (by decide) (pv 0) (pa_cons (pe_ix ix_tup (pv 5) pe_int (fun _ _ => rfl)) pa_nil)) (pa_cons (pe_op op_xor (pe_ix ix_tup (pv 5) pe_int (fun _ _ => rfl)) (pv 8)) pa_nil)))))
    pss_nil)
    (pss_cons (ps_if (pt_cmpR op_eq (pv 3) pe_int (nomark _)) (pss_cons (ps_set (i := 9) sc_L_made.nd rfl (.inl rfl) (pe_op op_or (pe_op op_and (pe_ix ix_tup (pv 5) pe_int (fun _ _ => rfl)) (pe_ix ix_tup (pv 6) pe_int (fun _ _ => rfl))) (pe_op op_and (pe_op op_xor (pe_ix ix_tup (pv 5) pe_int (fun _ _ => rfl)) (pv 8)) (pe_ix ix_tup (pv 7) pe_int (fun _ _ => rfl)))))
    (pss_one (ps_ret (pe_tup (pa_cons (pe_m (ok_Diagrams_chosen T) hr (by decide) (pv 0) (pa_cons (pe_ix ix_tup (pv 5) pe_int (fun _ _ => rfl)) (pa_cons (pe_ix ix_tup (pv 6) pe_int (fun _ _ => rfl)) (pa_cons (pe_ix ix_tup (pv 7) pe_int (fun _ _ => rfl)) pa_nil)))) (pa_cons (pv 9) pa_nil))))))
    pss_nil)
    (pss_cons (ps_par rfl sc_L_made.nd rfl rfl (by decide) rfl rfl (pa_cons (pe_ix ix_list (pe_lst (pa_cons (pe_tup (pa_cons pe_int (pa_cons pe_int pa_nil))) (pa_cons (pe_tup (pa_cons pe_int (pa_cons (pv 8) pa_nil))) pa_nil))) (pe_op op_mod (pv 4) pe_int) (fun _ _ => rfl)) (pa_cons (pe_ix ix_list (pe_lst (pa_cons (pe_tup (pa_cons pe_int (pa_cons (pv 8) pa_nil))) (pa_cons (pe_tup (pa_cons pe_int (pa_cons pe_int pa_nil))) pa_nil))) (pe_op op_mod (pe_op op_fdiv (pv 4) pe_int) pe_int) (fun _ _ => rfl)) pa_nil)) (by rfl))
    (pss_cons (ps_set (i := 12) sc_L_made.nd rfl (.inl rfl) (pe_op op_mod (pe_op op_fdiv (pv 4) pe_int) pe_int))
    (pss_cons (ps_set (i := 9) sc_L_made.nd rfl (.inl rfl) (pe_op op_or (pe_op op_and (pe_ix ix_tup (pv 11) pe_int (fun _ _ => rfl)) (pe_c (ok_L_bit T) hr (by decide) (by rfl) (pa_cons (pv 12) pa_nil))) (pe_op op_and (pe_ix ix_tup (pv 10) pe_int (fun _ _ => rfl)) (pe_op op_xor (pe_c (ok_L_bit T) hr (by decide) (by rfl) (pa_cons (pv 12) pa_nil)) (pv 8)))))
    (pss_one (ps_ret (pe_tup (pa_cons (pe_m (ok_Diagrams_choice T) hr (by decide) (pv 0) (pa_cons (pv 12) (pa_cons (pe_ix ix_tup (pv 10) pe_int (fun _ _ => rfl)) (pa_cons (pe_ix ix_tup (pv 11) pe_int (fun _ _ => rfl)) pa_nil)))) (pa_cons (pv 9) pa_nil))))))))))))))))))
    (fun vs H Q E h => vr_L_made vs H Q E h)
theorem ok_Diagrams_beyond (T : Tx K mg) : CalM P w K mg base 2 (He.ga K "Diagrams") "beyond" (sp_Diagrams_beyond K w P) :=
  calM_mk (t := (rd_Diagrams_beyond K w P)) T.k_Diagrams T.h_Diagrams_beyond T.d_Diagrams_beyond sc_Diagrams_beyond (fun _ _ _ _ _ _ us hl => match us, hl with | [_, _, _, _], _ => rfl) len_Diagrams_beyond
    (fun f cdv A outer s H E hr => (pss_cons (ps_while PassesOwn.never (pt_cmpR op_lt (pe_ix ix_list (pe_fld (pv 0) (by rfl)) (pv 1) (fun _ _ => rfl)) (pv 2) (nomark _)) (pss_one (ps_set (i := 1) sc_Diagrams_beyond.nd rfl (.inl rfl) (pe_m (ok_Diagrams_p_side T) hr (by decide) (pv 0) (pa_cons (pv 1) (pa_cons (pe_ix ix_list (pe_fld (pv 0) (by rfl)) (pv 1) (fun _ _ => rfl)) (pa_cons (pe_op op_and (pe_op op_shr (pv 3) (pe_ix ix_list (pe_fld (pv 0) (by rfl)) (pv 1) (fun _ _ => rfl))) pe_int) pa_nil)))))))
    (pss_one (ps_ret (pv 1)))))
    (fun vs H Q E h => vr_Diagrams_beyond T.k_Diagrams T.a_Diagrams_bits vs H Q E h)
theorem ok_Diagrams_told (T : Tx K mg) : CalM P w K mg base 3 (He.ga K "Diagrams") "told" (sp_Diagrams_told K w P) :=
  calM_mk (t := (rd_Diagrams_told K w P)) T.k_Diagrams T.h_Diagrams_told T.d_Diagrams_told sc_Diagrams_told (fun _ _ _ _ _ _ us hl => match us, hl with | [_, _, _], _ => rfl) len_Diagrams_told
    (fun f cdv A outer s H E hr => (pss_one (ps_ret (pe_m (ok_Diagrams_beyond T) hr (by decide) (pv 0) (pa_cons (pv 1) (pa_cons (pe_gc (by rfl) T.c_NO_BIT) (pa_cons (pv 2) pa_nil)))))))
    (fun vs H Q E h => vr_Diagrams_told vs H Q E h)
theorem ok_Diagrams_way (T : Tx K mg) : CalM P w K mg base 1 (He.ga K "Diagrams") "way" (sp_Diagrams_way K w P) :=
  calM_mk (t := (rd_Diagrams_way K)) T.k_Diagrams T.h_Diagrams_way T.d_Diagrams_way sc_Diagrams_way (fun _ _ _ _ _ _ us hl => match us, hl with | [_, _], _ => rfl) len_Diagrams_way
    (fun f cdv A outer s H E hr => (pss_one (ps_ret (pe_ix ix_list (pe_fld (pv 0) (by rfl)) (pv 1) (fun _ _ => rfl)))))
    (fun vs H Q E h => vr_Diagrams_way T.k_Diagrams T.a_Diagrams_ways vs H Q E h)
theorem ok_L_right (T : Tx K mg) : Cal P w K mg base 4 "_law_right" (sp_L_right K w P) :=
  cal_mk (t := (rd_L_right K w P)) T.d_L_right sc_L_right (fun _ _ _ _ _ _ us hl => match us, hl with | [_, _, _, _], _ => rfl) len_L_right
    (fun f cdv A outer s H E hr => (pss_cons (ps_if (PW.pt (pw_or (pt_not (pt_truth (pe_callB call_isi (by rfl) T.n_isinstance (by decide +kernel) (pa_cons (pv 1) (pa_cons (pe_bltn (by rfl) T.n_int (by decide +kernel) rfl) pa_nil))) (by intro _; rfl))) (pw_or1 (pt_truth (pe_callB call_isi (by rfl) T.n_isinstance (by decide +kernel) (pa_cons (pv 1) (pa_cons (pe_bltn (by rfl) T.n_bool (by decide +kernel) rfl) pa_nil))) (by intro _; rfl))))) (pss_one (ps_ret pe_bl))
    pss_nil)
    (pss_cons (ps_set (i := 4) sc_L_right.nd rfl (.inr rfl) (pe_op op_mod (pv 3) pe_int))
    (pss_cons (ps_if (pt_cmpR op_ne (pe_m (ok_Diagrams_told T) hr (by decide) (pv 0) (pa_cons (pv 1) (pa_cons (pv 4) pa_nil))) (pe_op op_and (pe_op op_shr (pv 2) (pv 4)) pe_int) (nomark _)) (pss_one (ps_ret pe_bl))
    pss_nil)
    (pss_cons (ps_setLc (i := 5) (own := [("_law_word_here", 4)]) (g := (gName 4)) (tt := (tTest (tOp rEq (tOp rAndI (tOp rShrI (tVar 2) (tVar 4)) (tC (.int 1))) (tC (.int 1))))) rfl sc_L_right.nd rfl rfl (sw_true rfl rfl rfl (by decide +kernel)) (pi_range1 (by rfl) T.n_range (pa_cons pe_int pa_nil)) (blkOk_by (N := ["_law_diagram", "_law_knot", "_law_truths", "_law_number", "_law_word_here", "_law_due", "_law_size", "_law_after", "_law_some", "_law_high", "_law_one"]) (sc := defScope s_L_right) (by decide +kernel)) (fun _ _ _ _ _ => (pg_name (i := 4) sc_L_right.nd rfl (.inl rfl))) (fun _ _ _ _ _ => (pts_one (pt_cmpR op_eq (pe_op op_and (pe_op op_shr (pv 2) (pv 4)) pe_int) pe_int (nomark _)))) (fun _ _ _ _ _ => (pv 4)))
    (pss_cons (ps_if (pt_cmpR (op_neD (hu64 hr)) (pe_m (ok_Diagrams_way T) hr (by decide) (pv 0) (pa_cons (pv 1) pa_nil)) (pe_callBK (ZDN.cr_minD rfl (hu64 hr)) (by rfl) T.n_min (by decide +kernel) (pa_cons (pv 5) pa_nil) (pk_cons pe_non pk_nil)) (nomark _)) (pss_one (ps_ret pe_bl))
    pss_nil)
    (pss_cons (ps_set (i := 6) sc_L_right.nd rfl (.inr rfl) (pe_op op_mod (pe_op op_fdiv (pv 3) pe_int) pe_int))
    (pss_cons (ps_set (i := 7) sc_L_right.nd rfl (.inr rfl) (pe_m (ok_Diagrams_beyond T) hr (by decide) (pv 0) (pa_cons (pv 1) (pa_cons (pv 6) (pa_cons (pv 4) pa_nil)))))
    (pss_cons (ps_setLc (i := 8) (own := [("_law_high", 9)]) (g := (gName 9)) (tt := tYes) rfl sc_L_right.nd rfl rfl (sw_true rfl rfl rfl (by decide +kernel)) (pi_range1 (by rfl) T.n_range (pa_cons (pe_op op_shr pe_int (pv 6)) pa_nil)) (blkOk_by (N := ["_law_diagram", "_law_knot", "_law_truths", "_law_number", "_law_word_here", "_law_due", "_law_size", "_law_after", "_law_some", "_law_high", "_law_one"]) (sc := defScope s_L_right) (by decide +kernel)) (fun _ _ _ _ _ => (pg_name (i := 9) sc_L_right.nd rfl (.inl rfl))) (fun _ _ _ _ _ => pts_nil) (fun _ _ _ _ _ => (pe_op op_or (pe_op op_and (pv 4) (pe_op op_sub (pe_op op_shlW pe_int (pv 6)) pe_int)) (pe_op op_shlW (pv 9) (pv 6)))))
    (pss_one (ps_ret (pe_cmpR (op_eqD (hu64 hr)) (pe_lc (own := [("_law_one", 10)]) (g := (gName 10)) (tt := tYes) rfl sc_L_right.nd (pi_list (pv 8)) (blkOk_by (N := ["_law_diagram", "_law_knot", "_law_truths", "_law_number", "_law_word_here", "_law_due", "_law_size", "_law_after", "_law_some", "_law_high", "_law_one"]) (sc := defScope s_L_right) (by decide +kernel)) (fun _ _ _ _ _ => (pg_name (i := 10) sc_L_right.nd rfl (.inl rfl))) (fun _ _ _ _ _ => pts_nil) (fun _ _ _ _ _ => (pe_m (ok_Diagrams_told T) hr (by decide) (pv 0) (pa_cons (pv 7) (pa_cons (pv 10) pa_nil))))) (pe_lc (own := [("_law_one", 10)]) (g := (gName 10)) (tt := tYes) rfl sc_L_right.nd (pi_list (pv 8)) (blkOk_by (N := ["_law_diagram", "_law_knot", "_law_truths", "_law_number", "_law_word_here", "_law_due", "_law_size", "_law_after", "_law_some", "_law_high", "_law_one"]) (sc := defScope s_L_right) (by decide +kernel)) (fun _ _ _ _ _ => (pg_name (i := 10) sc_L_right.nd rfl (.inl rfl))) (fun _ _ _ _ _ => pts_nil) (fun _ _ _ _ _ => (pe_op op_and (pe_op op_shr (pv 2) (pv 10)) pe_int))) (nomark _)))))))))))))
    (fun vs H Q E h => vr_L_right vs H Q E h)
theorem ok_L_full (T : Tx K mg) : Cal P w K mg base 4 "_law_full" sp_L_full :=
  cal_mk (t := (rd_L_full K w P)) T.d_L_full sc_L_full (fun _ _ _ _ _ _ us hl => match us, hl with | [_], _ => rfl) len_L_full
    (fun f cdv A outer s H E hr => (pss_cons (ps_set (i := 1) sc_L_full.nd rfl (.inl rfl) (ZDN.pe_id (ok_Diagrams_init T) hr (by decide) (by rfl) (pa_cons (pv 0) pa_nil)))
    (pss_cons (ps_for PassesOwn.never rfl (pi_range1 (by rfl) T.n_range (pa_cons (pv 0) pa_nil)) (pg_name (i := 2) sc_L_full.nd rfl (.inl rfl)) (pss_one (ps_expr (ZE.pe_mx (ok_Diagrams_bit T) (ZZ.outX takes0) hr (by decide) (pv 1) (pa_cons (pv 2) pa_nil)))))
    (pss_cons (ps_for PassesOwn.never rfl (pi_range1 (by rfl) T.n_range (pa_cons pe_int pa_nil)) (pg_name (i := 3) sc_L_full.nd rfl (.inl rfl)) (pss_cons (ps_set (i := 4) sc_L_full.nd rfl (.inl rfl) pe_non)
    (pss_cons (ZE.ps_try_keep (i := 5) (c := .ref (He.ga K "YardError")) (tb := fun W => (tDrop (ZE.tMethS (He.ga K "Diagrams") "bit" (sp_Diagrams_bit K w P) (WE W) (tVar 1) (tCons (tVar 0) tNil)))) (ts := fun _ _ _ => (tAsg (tVar 5) (gName 4))) (Wout := fun _ _ _ _ => False) rfl rfl rfl sc_L_full.nd rfl rfl ⟨rfl, by decide, Or.inl T.g_YardError⟩ takes0
    (fun W pn xe tk po => (pss_one (ps_expr (ZE.pe_mxS (ok_Diagrams_bit T) tk hr (by decide) (pv 1) (pa_cons (pv 0) pa_nil)))))
    (fun _ _ _ _ _ _ _ => (pss_one (ps_set (i := 4) sc_L_full.nd rfl (.inl rfl) (pv 5)))))
    (pss_one (ps_if (PW.pt (pw_or (pt_not (pt_truth (pe_callB ZE.call_isX (by rfl) T.n_isinstance (by decide +kernel) (pa_cons (pv 4) (pa_cons (ZZ.pe_own (by rfl) T.g_TooMany) pa_nil))) (by intro _; rfl))) (pw_or (pt_truth (pe_callB ZE.call_isX (by rfl) T.n_isinstance (by decide +kernel) (pa_cons (pv 4) (pa_cons (ZZ.pe_own (by rfl) T.g_BadNet) pa_nil))) (by intro _; rfl)) (pw_or1 (pt_truth (pe_callB ZE.call_isX (by rfl) T.n_isinstance (by decide +kernel) (pa_cons (pv 4) (pa_cons (ZZ.pe_own (by rfl) T.g_BadDoors) pa_nil))) (by intro _; rfl)))))) (pss_one (ps_ret pe_bl))
    pss_nil)))))
    (pss_one (ps_ret (pe_andT (pe_cmpR op_eq (pe_m0 (ok_Diagrams_how_many T) hr (by decide) (pv 1)) (pv 0) (nomark _)) (pe_one (pe_cmpR op_eq (pe_m (ok_Diagrams_told T) hr (by decide) (pv 1) (pa_cons (ZE.pe_mx (ok_Diagrams_bit T) (ZZ.outX takes0) hr (by decide) (pv 1) (pa_cons pe_int pa_nil)) (pa_cons pe_int pa_nil))) pe_int (nomark _))))))))))
    (fun vs H Q E h => vr_L_full T.kx T.m_TooMany_YardError vs H Q E h)
theorem ok_L_cell (T : Tx K mg) : Cal P w K mg base 1 "_law_cell" (sp_L_cell K) :=
  cal_mk (t := (rd_L_cell K)) T.d_L_cell sc_L_cell (fun _ _ _ _ _ _ us hl => match us, hl with | [_, _], _ => rfl) len_L_cell
    (fun f cdv A outer s H E hr => (pss_cons (ps_set (i := 2) sc_L_cell.nd rfl (.inl rfl) pe_int)
    (pss_cons (ps_if (pt_cmpR op_gt (pe_callB call_len_seq (by rfl) T.n_len (by decide +kernel) (pa_cons (pv 0) pa_nil)) pe_int (nomark _)) (pss_one (ps_set (i := 2) sc_L_cell.nd rfl (.inl rfl) (pe_op op_mod (pe_ix ix_list (pv 0) (pe_op op_mod (pv 1) (pe_callB call_len_seq (by rfl) T.n_len (by decide +kernel) (pa_cons (pv 0) pa_nil))) (fun _ _ => rfl)) pe_int)))
    pss_nil)
    (pss_one (ps_ret (pe_op op_fdiv (pe_op op_mod (pe_op op_mul (pe_op op_mod (pe_op op_mul (pe_op op_add (pe_op op_add (pv 2) (pe_op op_mul (pe_op op_mul pe_int (pv 1)) (pv 1))) (pe_op op_mul pe_int (pv 1))) pe_int) pe_int) pe_int) pe_int) pe_int))))))
    (fun vs H Q E h => vr_L_cell vs H Q E h)
theorem ok_law (T : Tx K mg) : Cal P w K mg base 20 "law" (sp_law K) :=
  cal_mk (t := (rd_law K w P)) T.d_law sc_law (fun _ _ _ _ _ _ us hl => match us, hl with | [_], _ => rfl) len_law
    (fun f cdv A outer s H E hr => (pss_cons (ps_set (i := 1) sc_law.nd rfl (.inl rfl) (pe_lst (pa_cons (ZDN.pe_id0 (ok_Diagrams_init T) hr (by decide) (by rfl)) (pa_cons (ZDN.pe_id (ok_Diagrams_init T) hr (by decide) (by rfl) (pa_cons pe_int pa_nil)) pa_nil))))
    (pss_cons (ps_set (i := 2) sc_law.nd rfl (.inl rfl) (pe_lst (pa_cons (pe_lst (pa_cons (pe_tup (pa_cons pe_int (pa_cons pe_int pa_nil))) (pa_cons (pe_tup (pa_cons pe_int (pa_cons (pe_op op_sub (pe_op op_shlW pe_int pe_int) pe_int) pa_nil))) pa_nil))) (pa_cons (pe_lst (pa_cons (pe_tup (pa_cons pe_int (pa_cons pe_int pa_nil))) (pa_cons (pe_tup (pa_cons pe_int (pa_cons (pe_op op_sub (pe_op op_shlW pe_int pe_int) pe_int) pa_nil))) pa_nil))) pa_nil))))
    (pss_cons (ps_if (pt_cmpR op_ne (pe_m0 (ok_Diagrams_how_many T) hr (by decide) (pe_ix ix_list (pv 1) pe_int (fun _ _ => rfl))) pe_int (nomark _)) (pss_one (ps_ret pe_bl))
    pss_nil)
    (pss_cons (ps_for PassesOwn.never rfl (pi_enum (by rfl) T.n_enumerate (pa_cons (pe_slice sl_list (pv 0) po_none (po_some pe_int)) pa_nil)) (pg_tup rfl (pgs_cons (pg_name (i := 3) sc_law.nd rfl (.inl rfl)) (pgs_cons (pg_name (i := 4) sc_law.nd rfl (.inl rfl)) pgs_nil))) (pss_cons (ps_set (i := 5) sc_law.nd rfl (.inl rfl) (pe_c (ok_L_mixed T) hr (by decide) (by rfl) (pa_cons (pe_op op_mod (pv 4) pe_int) (pa_cons (pv 3) pa_nil))))
    (pss_cons (ps_set (i := 6) sc_law.nd rfl (.inl rfl) (pe_op op_fdiv (pe_op op_mod (pv 5) pe_int) pe_int))
    (pss_cons (ps_set (i := 7) sc_law.nd rfl (.inl rfl) (pe_c (ok_L_made T) hr (by decide) (by rfl) (pa_cons (pe_ix ix_list (pv 1) (pv 6) (fun _ _ => rfl)) (pa_cons (pe_ix ix_list (pv 2) (pv 6) (fun _ _ => rfl)) (pa_cons (pe_op op_fdiv (pv 5) pe_int) pa_nil)))))
    (pss_cons (ps_expr (pe_bm PySem.F.plainAttrs_list PySem.F.slot_list_append PySem.F.type_list_append mt_append (pe_ix ix_list (pv 2) (pv 6) (fun _ _ => rfl)) (pa_cons (pv 7) pa_nil)))
    (pss_cons (ps_if (pt_not (pt_truth (pe_c (ok_L_right T) hr (by decide) (by rfl) (pa_cons (pe_ix ix_list (pv 1) (pv 6) (fun _ _ => rfl)) (pa_cons (pe_ix ix_tup (pv 7) pe_int (fun _ _ => rfl)) (pa_cons (pe_ix ix_tup (pv 7) pe_int (fun _ _ => rfl)) (pa_cons (pe_op op_fdiv (pv 5) pe_int) pa_nil))))) (by intro _; rfl))) (pss_one (ps_ret pe_bl))
    pss_nil)
    (pss_cons (ps_set (i := 8) sc_law.nd rfl (.inl rfl) (pe_m0 (ok_Diagrams_how_many T) hr (by decide) (pe_ix ix_list (pv 1) (pv 6) (fun _ _ => rfl))))
    (pss_one (ps_if (PW.pt (pw_or (pt_cmpR op_lt (pv 8) (pe_op op_sub (ZDN.pe_lenSet rfl (by rfl) T.n_len (by rfl) T.n_set (pe_lc (own := [("_law_one", 10)]) (g := (gName 10)) (tt := tYes) rfl sc_law.nd (pi_list (pe_ix ix_list (pv 2) (pv 6) (fun _ _ => rfl))) (blkOk_by (N := ["_law_script", "_law_diagrams", "_law_pairs", "_law_k", "_law_cell_here", "_law_number", "_law_who", "_law_pair", "_law_many", "_law_row", "_law_one", "_law_other"]) (sc := defScope s_law) (by decide +kernel)) (fun _ _ _ _ _ => (pg_name (i := 10) sc_law.nd rfl (.inl rfl))) (fun _ _ _ _ _ => pts_nil) (fun _ _ _ _ _ => (pe_ix ix_tup (pv 10) pe_int (fun _ _ => rfl))))) pe_int) (nomark _)) (pw_or1 (pt_truth (pe_callB call_isi (by rfl) T.n_isinstance (by decide +kernel) (pa_cons (pv 8) (pa_cons (pe_bltn (by rfl) T.n_bool (by decide +kernel) rfl) pa_nil))) (by intro _; rfl))))) (pss_one (ps_ret pe_bl))
    pss_nil)))))))))
    (pss_cons (ps_for PassesOwn.never rfl (pi_list (pv 2)) (pg_name (i := 9) sc_law.nd rfl (.inl rfl)) (pss_one (ps_for PassesOwn.never rfl (pi_list (pv 9)) (pg_name (i := 10) sc_law.nd rfl (.inr rfl)) (pss_one (ps_if (pt_cmpR (op_neD (hu64 hr)) (pe_lc (own := [("_law_other", 11)]) (g := (gName 11)) (tt := (tTest (tOp rNe (tOp rEq (tOp (rIxT K) (tVar 11) (tC (.int 0))) (tOp (rIxT K) (tVar 10) (tC (.int 0)))) (tOp rEq (tOp (rIxT K) (tVar 11) (tC (.int 1))) (tOp (rIxT K) (tVar 10) (tC (.int 1))))))) rfl sc_law.nd (pi_list (pv 9)) (blkOk_by (N := ["_law_script", "_law_diagrams", "_law_pairs", "_law_k", "_law_cell_here", "_law_number", "_law_who", "_law_pair", "_law_many", "_law_row", "_law_one", "_law_other"]) (sc := defScope s_law) (by decide +kernel)) (fun _ _ _ _ _ => (pg_name (i := 11) sc_law.nd rfl (.inl rfl))) (fun _ _ _ _ _ => (pts_one (pt_cmpR op_ne (pe_cmpR op_eq (pe_ix ix_tup (pv 11) pe_int (fun _ _ => rfl)) (pe_ix ix_tup (pv 10) pe_int (fun _ _ => rfl)) (nomark _)) (pe_cmpR op_eq (pe_ix ix_tup (pv 11) pe_int (fun _ _ => rfl)) (pe_ix ix_tup (pv 10) pe_int (fun _ _ => rfl)) (nomark _)) (nomark _)))) (fun _ _ _ _ _ => (pv 11))) (pe_lst pa_nil) (nomark _)) (pss_one (ps_ret pe_bl))
    pss_nil)))))
    (pss_one (ps_ret (pe_c (ok_L_full T) hr (by decide) (by rfl) (pa_cons (pe_op op_add pe_int (pe_op op_mod (pe_c (ok_L_cell T) hr (by decide) (by rfl) (pa_cons (pv 0) (pa_cons pe_int pa_nil))) pe_int)) pa_nil))))))))))
    (fun vs H Q E h => vr_law vs H Q E h)
end
def dd_Diagrams_init : He.DefD := ⟨("Diagrams", some "__init__"), "__init__", "Diagrams.__init__", defArgs s_Diagrams_init, defBody s_Diagrams_init, defScope s_Diagrams_init, [(.int 2000)], []⟩
def dd_Diagrams_how_many : He.DefD := ⟨("Diagrams", some "how_many"), "how_many", "Diagrams.how_many", defArgs s_Diagrams_how_many, defBody s_Diagrams_how_many, defScope s_Diagrams_how_many, [], []⟩
def dd_L_mixed : He.DefD := ⟨("_law_mixed", none), "_law_mixed", "_law_mixed", defArgs s_L_mixed, defBody s_L_mixed, defScope s_L_mixed, [], []⟩
def dd_p_way_by : He.DefD := ⟨("_way_by", none), "_way_by", "_way_by", defArgs s_p_way_by, defBody s_p_way_by, defScope s_p_way_by, [], []⟩
def dd_Diagrams_p_knot : He.DefD := ⟨("Diagrams", some "_knot"), "_knot", "Diagrams._knot", defArgs s_Diagrams_p_knot, defBody s_Diagrams_p_knot, defScope s_Diagrams_p_knot, [], []⟩
def dd_Diagrams_bit : He.DefD := ⟨("Diagrams", some "bit"), "bit", "Diagrams.bit", defArgs s_Diagrams_bit, defBody s_Diagrams_bit, defScope s_Diagrams_bit, [], []⟩
def dd_L_bit : He.DefD := ⟨("_law_bit", none), "_law_bit", "_law_bit", defArgs s_L_bit, defBody s_L_bit, defScope s_L_bit, [], []⟩
def dd_Diagrams_p_side : He.DefD := ⟨("Diagrams", some "_side"), "_side", "Diagrams._side", defArgs s_Diagrams_p_side, defBody s_Diagrams_p_side, defScope s_Diagrams_p_side, [], []⟩
def dd_Diagrams_p_choice : He.DefD := ⟨("Diagrams", some "_choice"), "_choice", "Diagrams._choice", defArgs s_Diagrams_p_choice, defBody s_Diagrams_p_choice, defScope s_Diagrams_p_choice, [], []⟩
def dd_p_known_by_rule : He.DefD := ⟨("_known_by_rule", none), "_known_by_rule", "_known_by_rule", defArgs s_p_known_by_rule, defBody s_p_known_by_rule, defScope s_p_known_by_rule, [], []⟩
def dd_Diagrams_p_made : He.DefD := ⟨("Diagrams", some "_made"), "_made", "Diagrams._made", defArgs s_Diagrams_p_made, defBody s_Diagrams_p_made, defScope s_Diagrams_p_made, [], []⟩
def dd_Diagrams_p_whole : He.DefD := ⟨("Diagrams", some "_whole"), "_whole", "Diagrams._whole", defArgs s_Diagrams_p_whole, defBody s_Diagrams_p_whole, defScope s_Diagrams_p_whole, [], []⟩
def dd_Diagrams_both : He.DefD := ⟨("Diagrams", some "both"), "both", "Diagrams.both", defArgs s_Diagrams_both, defBody s_Diagrams_both, defScope s_Diagrams_both, [], []⟩
def dd_Diagrams_either : He.DefD := ⟨("Diagrams", some "either"), "either", "Diagrams.either", defArgs s_Diagrams_either, defBody s_Diagrams_either, defScope s_Diagrams_either, [], []⟩
def dd_Diagrams_unlike : He.DefD := ⟨("Diagrams", some "unlike"), "unlike", "Diagrams.unlike", defArgs s_Diagrams_unlike, defBody s_Diagrams_unlike, defScope s_Diagrams_unlike, [], []⟩
def dd_Diagrams_turned : He.DefD := ⟨("Diagrams", some "turned"), "turned", "Diagrams.turned", defArgs s_Diagrams_turned, defBody s_Diagrams_turned, defScope s_Diagrams_turned, [], []⟩
def dd_Diagrams_chosen : He.DefD := ⟨("Diagrams", some "chosen"), "chosen", "Diagrams.chosen", defArgs s_Diagrams_chosen, defBody s_Diagrams_chosen, defScope s_Diagrams_chosen, [], []⟩
def dd_Diagrams_choice : He.DefD := ⟨("Diagrams", some "choice"), "choice", "Diagrams.choice", defArgs s_Diagrams_choice, defBody s_Diagrams_choice, defScope s_Diagrams_choice, [], []⟩
def dd_L_made : He.DefD := ⟨("_law_made", none), "_law_made", "_law_made", defArgs s_L_made, defBody s_L_made, defScope s_L_made, [], []⟩
def dd_Diagrams_beyond : He.DefD := ⟨("Diagrams", some "beyond"), "beyond", "Diagrams.beyond", defArgs s_Diagrams_beyond, defBody s_Diagrams_beyond, defScope s_Diagrams_beyond, [], []⟩
def dd_Diagrams_told : He.DefD := ⟨("Diagrams", some "told"), "told", "Diagrams.told", defArgs s_Diagrams_told, defBody s_Diagrams_told, defScope s_Diagrams_told, [], []⟩
def dd_Diagrams_way : He.DefD := ⟨("Diagrams", some "way"), "way", "Diagrams.way", defArgs s_Diagrams_way, defBody s_Diagrams_way, defScope s_Diagrams_way, [], []⟩
def dd_L_right : He.DefD := ⟨("_law_right", none), "_law_right", "_law_right", defArgs s_L_right, defBody s_L_right, defScope s_L_right, [], []⟩
def dd_L_full : He.DefD := ⟨("_law_full", none), "_law_full", "_law_full", defArgs s_L_full, defBody s_L_full, defScope s_L_full, [], []⟩
def dd_L_cell : He.DefD := ⟨("_law_cell", none), "_law_cell", "_law_cell", defArgs s_L_cell, defBody s_L_cell, defScope s_L_cell, [], []⟩
def dd_law : He.DefD := ⟨("law", none), "law", "law", defArgs s_law, defBody s_law, defScope s_law, [], []⟩
def fnD : List He.DefD := [dd_Diagrams_init, dd_Diagrams_how_many, dd_L_mixed, dd_p_way_by, dd_Diagrams_p_knot, dd_Diagrams_bit, dd_L_bit, dd_Diagrams_p_side, dd_Diagrams_p_choice, dd_p_known_by_rule, dd_Diagrams_p_made, dd_Diagrams_p_whole, dd_Diagrams_both, dd_Diagrams_either, dd_Diagrams_unlike, dd_Diagrams_turned, dd_Diagrams_chosen, dd_Diagrams_choice, dd_L_made, dd_Diagrams_beyond, dd_Diagrams_told, dd_Diagrams_way, dd_L_right, dd_L_full, dd_L_cell, dd_law]
def faD : List He.Fa := [.glo "_law_mixed", .glo "_way_by", .glo "_law_bit", .glo "_known_by_rule", .glo "_law_made", .glo "_law_right", .glo "_law_full", .glo "_law_cell", .glo "law", .free "bool", .free "enumerate", .free "int", .free "isinstance", .free "len", .free "max", .free "min", .free "range", .free "set", .free "sum", .free "tuple", .int "NO_BIT" 1000000, .glo "Diagrams", .cls "Diagrams", .mkr "Diagrams", .glo "BadDoors", .glo "BadNet", .glo "TooMany", .glo "YardError", .meth "Diagrams" "_choice", .meth "Diagrams" "_knot", .meth "Diagrams" "_made", .meth "Diagrams" "_side", .meth "Diagrams" "_whole", .meth "Diagrams" "beyond", .meth "Diagrams" "bit", .meth "Diagrams" "both", .meth "Diagrams" "choice", .meth "Diagrams" "chosen", .meth "Diagrams" "either", .meth "Diagrams" "how_many", .meth "Diagrams" "told", .meth "Diagrams" "turned", .meth "Diagrams" "unlike", .meth "Diagrams" "way", .noat "Diagrams" "bits", .noat "Diagrams" "highs", .noat "Diagrams" "known", .noat "Diagrams" "lows", .noat "Diagrams" "most", .noat "Diagrams" "places", .noat "Diagrams" "ways", .noat "Diagrams" "whole"]
def exD : PySem.W.Frag → Bool := fun K => ZZ.excB K (He.ga K "TooMany") && (PySem.W.exmOne K (.ref (He.ga K "TooMany")) (.ref (He.ga K "YardError")) == some true) && ZZ.kindsB K ["TooMany"] ((["TooMany", "BadNet", "BadDoors"] : List Str).map fun t => (t, t))
theorem tx_of {K : PySem.W.Frag} {h : Heap} {mg : Str → Option Value} (X : K.In h) (G : h.Ns mainGlobals mg) (c : He.SaysD faD fnD K) (ex : exD K = true) : Tx K mg where
  d_Diagrams_init := c.def_ 0 (d := dd_Diagrams_init) rfl
  d_Diagrams_how_many := c.def_ 1 (d := dd_Diagrams_how_many) rfl
  d_L_mixed := by
    obtain ⟨fd, F⟩ := c.def_ 2 (d := dd_L_mixed) rfl
    exact ⟨_, fd, F, He.glo_ok X G (c.fact 0 (f := .glo "_law_mixed") rfl)⟩
  d_p_way_by := by
    obtain ⟨fd, F⟩ := c.def_ 3 (d := dd_p_way_by) rfl
    exact ⟨_, fd, F, He.glo_ok X G (c.fact 1 (f := .glo "_way_by") rfl)⟩
  d_Diagrams_p_knot := c.def_ 4 (d := dd_Diagrams_p_knot) rfl
  d_Diagrams_bit := c.def_ 5 (d := dd_Diagrams_bit) rfl
  d_L_bit := by
    obtain ⟨fd, F⟩ := c.def_ 6 (d := dd_L_bit) rfl
    exact ⟨_, fd, F, He.glo_ok X G (c.fact 2 (f := .glo "_law_bit") rfl)⟩
  d_Diagrams_p_side := c.def_ 7 (d := dd_Diagrams_p_side) rfl
  d_Diagrams_p_choice := c.def_ 8 (d := dd_Diagrams_p_choice) rfl
  d_p_known_by_rule := by
    obtain ⟨fd, F⟩ := c.def_ 9 (d := dd_p_known_by_rule) rfl
    exact ⟨_, fd, F, He.glo_ok X G (c.fact 3 (f := .glo "_known_by_rule") rfl)⟩
  d_Diagrams_p_made := c.def_ 10 (d := dd_Diagrams_p_made) rfl
  d_Diagrams_p_whole := c.def_ 11 (d := dd_Diagrams_p_whole) rfl
  d_Diagrams_both := c.def_ 12 (d := dd_Diagrams_both) rfl
  d_Diagrams_either := c.def_ 13 (d := dd_Diagrams_either) rfl
  d_Diagrams_unlike := c.def_ 14 (d := dd_Diagrams_unlike) rfl
  d_Diagrams_turned := c.def_ 15 (d := dd_Diagrams_turned) rfl
  d_Diagrams_chosen := c.def_ 16 (d := dd_Diagrams_chosen) rfl
  d_Diagrams_choice := c.def_ 17 (d := dd_Diagrams_choice) rfl
  d_L_made := by
    obtain ⟨fd, F⟩ := c.def_ 18 (d := dd_L_made) rfl
    exact ⟨_, fd, F, He.glo_ok X G (c.fact 4 (f := .glo "_law_made") rfl)⟩
  d_Diagrams_beyond := c.def_ 19 (d := dd_Diagrams_beyond) rfl
  d_Diagrams_told := c.def_ 20 (d := dd_Diagrams_told) rfl
  d_Diagrams_way := c.def_ 21 (d := dd_Diagrams_way) rfl
  d_L_right := by
    obtain ⟨fd, F⟩ := c.def_ 22 (d := dd_L_right) rfl
    exact ⟨_, fd, F, He.glo_ok X G (c.fact 5 (f := .glo "_law_right") rfl)⟩
  d_L_full := by
    obtain ⟨fd, F⟩ := c.def_ 23 (d := dd_L_full) rfl
    exact ⟨_, fd, F, He.glo_ok X G (c.fact 6 (f := .glo "_law_full") rfl)⟩
  d_L_cell := by
    obtain ⟨fd, F⟩ := c.def_ 24 (d := dd_L_cell) rfl
    exact ⟨_, fd, F, He.glo_ok X G (c.fact 7 (f := .glo "_law_cell") rfl)⟩
  d_law := by
    obtain ⟨fd, F⟩ := c.def_ 25 (d := dd_law) rfl
    exact ⟨_, fd, F, He.glo_ok X G (c.fact 8 (f := .glo "law") rfl)⟩
  g_Diagrams := He.glo_ok X G (c.fact 21 (f := .glo "Diagrams") rfl)
  k_Diagrams := He.cls_ok (c.fact 22 (f := .cls "Diagrams") rfl)
  i_Diagrams := He.mkr_ok (c.fact 23 (f := .mkr "Diagrams") rfl)
  g_BadDoors := He.glo_ok X G (c.fact 24 (f := .glo "BadDoors") rfl)
  g_BadNet := He.glo_ok X G (c.fact 25 (f := .glo "BadNet") rfl)
  g_TooMany := He.glo_ok X G (c.fact 26 (f := .glo "TooMany") rfl)
  g_YardError := He.glo_ok X G (c.fact 27 (f := .glo "YardError") rfl)
  h_Diagrams_p_choice := He.meth_ok (c.fact 28 (f := .meth "Diagrams" "_choice") rfl)
  h_Diagrams_p_knot := He.meth_ok (c.fact 29 (f := .meth "Diagrams" "_knot") rfl)
  h_Diagrams_p_made := He.meth_ok (c.fact 30 (f := .meth "Diagrams" "_made") rfl)
  h_Diagrams_p_side := He.meth_ok (c.fact 31 (f := .meth "Diagrams" "_side") rfl)
  h_Diagrams_p_whole := He.meth_ok (c.fact 32 (f := .meth "Diagrams" "_whole") rfl)
  h_Diagrams_beyond := He.meth_ok (c.fact 33 (f := .meth "Diagrams" "beyond") rfl)
  h_Diagrams_bit := He.meth_ok (c.fact 34 (f := .meth "Diagrams" "bit") rfl)
  h_Diagrams_both := He.meth_ok (c.fact 35 (f := .meth "Diagrams" "both") rfl)
  h_Diagrams_choice := He.meth_ok (c.fact 36 (f := .meth "Diagrams" "choice") rfl)
  h_Diagrams_chosen := He.meth_ok (c.fact 37 (f := .meth "Diagrams" "chosen") rfl)
  h_Diagrams_either := He.meth_ok (c.fact 38 (f := .meth "Diagrams" "either") rfl)
  h_Diagrams_how_many := He.meth_ok (c.fact 39 (f := .meth "Diagrams" "how_many") rfl)
  h_Diagrams_told := He.meth_ok (c.fact 40 (f := .meth "Diagrams" "told") rfl)
  h_Diagrams_turned := He.meth_ok (c.fact 41 (f := .meth "Diagrams" "turned") rfl)
  h_Diagrams_unlike := He.meth_ok (c.fact 42 (f := .meth "Diagrams" "unlike") rfl)
  h_Diagrams_way := He.meth_ok (c.fact 43 (f := .meth "Diagrams" "way") rfl)
  a_Diagrams_bits := He.noat_ok (c.fact 44 (f := .noat "Diagrams" "bits") rfl)
  a_Diagrams_highs := He.noat_ok (c.fact 45 (f := .noat "Diagrams" "highs") rfl)
  a_Diagrams_known := He.noat_ok (c.fact 46 (f := .noat "Diagrams" "known") rfl)
  a_Diagrams_lows := He.noat_ok (c.fact 47 (f := .noat "Diagrams" "lows") rfl)
  a_Diagrams_most := He.noat_ok (c.fact 48 (f := .noat "Diagrams" "most") rfl)
  a_Diagrams_places := He.noat_ok (c.fact 49 (f := .noat "Diagrams" "places") rfl)
  a_Diagrams_ways := He.noat_ok (c.fact 50 (f := .noat "Diagrams" "ways") rfl)
  a_Diagrams_whole := He.noat_ok (c.fact 51 (f := .noat "Diagrams" "whole") rfl)
  n_bool := He.free_ok X G (c.fact 9 (f := .free "bool") rfl)
  n_enumerate := He.free_ok X G (c.fact 10 (f := .free "enumerate") rfl)
  n_int := He.free_ok X G (c.fact 11 (f := .free "int") rfl)
  n_isinstance := He.free_ok X G (c.fact 12 (f := .free "isinstance") rfl)
  n_len := He.free_ok X G (c.fact 13 (f := .free "len") rfl)
  n_max := He.free_ok X G (c.fact 14 (f := .free "max") rfl)
  n_min := He.free_ok X G (c.fact 15 (f := .free "min") rfl)
  n_range := He.free_ok X G (c.fact 16 (f := .free "range") rfl)
  n_set := He.free_ok X G (c.fact 17 (f := .free "set") rfl)
  n_sum := He.free_ok X G (c.fact 18 (f := .free "sum") rfl)
  n_tuple := He.free_ok X G (c.fact 19 (f := .free "tuple") rfl)
  c_NO_BIT := by
    obtain ⟨t, e⟩ := He.int_ok X G (c.fact 20 (f := .int "NO_BIT" 1000000) rfl)
    exact ⟨_, e, t, rfl⟩
  x_TooMany := ZZ.excB_ok (Bool.and_eq_true_iff.mp (Bool.and_eq_true_iff.mp ex).1).1
  m_TooMany_YardError := eq_of_beq (Bool.and_eq_true_iff.mp (Bool.and_eq_true_iff.mp ex).1).2
  kx := ZZ.kindsB_ok (Bool.and_eq_true_iff.mp ex).2
abbrev R : PySem.W.OpenRow := PySem.W.OpenLaw.row PySem.Challenge.rw_wireyard_k28_diagrams
def loose0 : List PySem.Str := ["YardError", "TooMany", "BadDoors", "BadNet", "NO_BIT", "Diagrams", "_way_by", "_known_by_rule", "_law_cell", "_law_mixed", "_law_next", "_law_word", "_law_names", "_law_bit", "_law_made", "_law_right"]
def loose1 : List PySem.Str := ["_law_full"]
def loose : List PySem.Str := loose0 ++ loose1
abbrev hk : PySem.W.Hook := Z.hookZ faD fnD exD 4
def ob (s : PySem.W.SharedT) : He.AlD × Bool := Z.lookZ faD fnD exD 4 (HandSHeadRun.getT s)
theorem ob_eq (s : PySem.W.SharedT) : ob s = hk.obs s.abs := Z.lookZ_eq (HandSHeadRun.getT_eq s)
theorem run (w : World) : HandSHeadRun.RunEq R (PySem.W.view R.prog [20]) hk ob 8000 loose w := by
  intro os
  kernel_rfl
theorem fn_law {P : Program} {w : World} {K : PySem.W.Frag} {mg : Str → Option Value} {base : Heap} {f : Addr} {fd : FuncData} (F : FunD K "law" "law" (defArgs s_law) (defBody s_law) (defScope s_law) [] [] f fd) (T : Tx K mg) : FnOk P w K mg base CX0 20 f fd ["_law_script"] (sp_law K) :=
  F.ok sc_law len_law fun cdv A outer s H vs Q E hr h => ⟨(rd_law K w P), PSs.nox ((pss_cons (ps_set (i := 1) sc_law.nd rfl (.inl rfl) (pe_lst (pa_cons (ZDN.pe_id0 (ok_Diagrams_init T) hr (by decide) (by rfl)) (pa_cons (ZDN.pe_id (ok_Diagrams_init T) hr (by decide) (by rfl) (pa_cons pe_int pa_nil)) pa_nil))))
    (pss_cons (ps_set (i := 2) sc_law.nd rfl (.inl rfl) (pe_lst (pa_cons (pe_lst (pa_cons (pe_tup (pa_cons pe_int (pa_cons pe_int pa_nil))) (pa_cons (pe_tup (pa_cons pe_int (pa_cons (pe_op op_sub (pe_op op_shlW pe_int pe_int) pe_int) pa_nil))) pa_nil))) (pa_cons (pe_lst (pa_cons (pe_tup (pa_cons pe_int (pa_cons pe_int pa_nil))) (pa_cons (pe_tup (pa_cons pe_int (pa_cons (pe_op op_sub (pe_op op_shlW pe_int pe_int) pe_int) pa_nil))) pa_nil))) pa_nil))))
    (pss_cons (ps_if (pt_cmpR op_ne (pe_m0 (ok_Diagrams_how_many T) hr (by decide) (pe_ix ix_list (pv 1) pe_int (fun _ _ => rfl))) pe_int (nomark _)) (pss_one (ps_ret pe_bl))
    pss_nil)
    (pss_cons (ps_for PassesOwn.never rfl (pi_enum (by rfl) T.n_enumerate (pa_cons (pe_slice sl_list (pv 0) po_none (po_some pe_int)) pa_nil)) (pg_tup rfl (pgs_cons (pg_name (i := 3) sc_law.nd rfl (.inl rfl)) (pgs_cons (pg_name (i := 4) sc_law.nd rfl (.inl rfl)) pgs_nil))) (pss_cons (ps_set (i := 5) sc_law.nd rfl (.inl rfl) (pe_c (ok_L_mixed T) hr (by decide) (by rfl) (pa_cons (pe_op op_mod (pv 4) pe_int) (pa_cons (pv 3) pa_nil))))
    (pss_cons (ps_set (i := 6) sc_law.nd rfl (.inl rfl) (pe_op op_fdiv (pe_op op_mod (pv 5) pe_int) pe_int))
    (pss_cons (ps_set (i := 7) sc_law.nd rfl (.inl rfl) (pe_c (ok_L_made T) hr (by decide) (by rfl) (pa_cons (pe_ix ix_list (pv 1) (pv 6) (fun _ _ => rfl)) (pa_cons (pe_ix ix_list (pv 2) (pv 6) (fun _ _ => rfl)) (pa_cons (pe_op op_fdiv (pv 5) pe_int) pa_nil)))))
    (pss_cons (ps_expr (pe_bm PySem.F.plainAttrs_list PySem.F.slot_list_append PySem.F.type_list_append mt_append (pe_ix ix_list (pv 2) (pv 6) (fun _ _ => rfl)) (pa_cons (pv 7) pa_nil)))
    (pss_cons (ps_if (pt_not (pt_truth (pe_c (ok_L_right T) hr (by decide) (by rfl) (pa_cons (pe_ix ix_list (pv 1) (pv 6) (fun _ _ => rfl)) (pa_cons (pe_ix ix_tup (pv 7) pe_int (fun _ _ => rfl)) (pa_cons (pe_ix ix_tup (pv 7) pe_int (fun _ _ => rfl)) (pa_cons (pe_op op_fdiv (pv 5) pe_int) pa_nil))))) (by intro _; rfl))) (pss_one (ps_ret pe_bl))
    pss_nil)
    (pss_cons (ps_set (i := 8) sc_law.nd rfl (.inl rfl) (pe_m0 (ok_Diagrams_how_many T) hr (by decide) (pe_ix ix_list (pv 1) (pv 6) (fun _ _ => rfl))))
    (pss_one (ps_if (PW.pt (pw_or (pt_cmpR op_lt (pv 8) (pe_op op_sub (ZDN.pe_lenSet rfl (by rfl) T.n_len (by rfl) T.n_set (pe_lc (own := [("_law_one", 10)]) (g := (gName 10)) (tt := tYes) rfl sc_law.nd (pi_list (pe_ix ix_list (pv 2) (pv 6) (fun _ _ => rfl))) (blkOk_by (N := ["_law_script", "_law_diagrams", "_law_pairs", "_law_k", "_law_cell_here", "_law_number", "_law_who", "_law_pair", "_law_many", "_law_row", "_law_one", "_law_other"]) (sc := defScope s_law) (by decide +kernel)) (fun _ _ _ _ _ => (pg_name (i := 10) sc_law.nd rfl (.inl rfl))) (fun _ _ _ _ _ => pts_nil) (fun _ _ _ _ _ => (pe_ix ix_tup (pv 10) pe_int (fun _ _ => rfl))))) pe_int) (nomark _)) (pw_or1 (pt_truth (pe_callB call_isi (by rfl) T.n_isinstance (by decide +kernel) (pa_cons (pv 8) (pa_cons (pe_bltn (by rfl) T.n_bool (by decide +kernel) rfl) pa_nil))) (by intro _; rfl))))) (pss_one (ps_ret pe_bl))
    pss_nil)))))))))
    (pss_cons (ps_for PassesOwn.never rfl (pi_list (pv 2)) (pg_name (i := 9) sc_law.nd rfl (.inl rfl)) (pss_one (ps_for PassesOwn.never rfl (pi_list (pv 9)) (pg_name (i := 10) sc_law.nd rfl (.inr rfl)) (pss_one (ps_if (pt_cmpR (op_neD (hu64 hr)) (pe_lc (own := [("_law_other", 11)]) (g := (gName 11)) (tt := (tTest (tOp rNe (tOp rEq (tOp (rIxT K) (tVar 11) (tC (.int 0))) (tOp (rIxT K) (tVar 10) (tC (.int 0)))) (tOp rEq (tOp (rIxT K) (tVar 11) (tC (.int 1))) (tOp (rIxT K) (tVar 10) (tC (.int 1))))))) rfl sc_law.nd (pi_list (pv 9)) (blkOk_by (N := ["_law_script", "_law_diagrams", "_law_pairs", "_law_k", "_law_cell_here", "_law_number", "_law_who", "_law_pair", "_law_many", "_law_row", "_law_one", "_law_other"]) (sc := defScope s_law) (by decide +kernel)) (fun _ _ _ _ _ => (pg_name (i := 11) sc_law.nd rfl (.inl rfl))) (fun _ _ _ _ _ => (pts_one (pt_cmpR op_ne (pe_cmpR op_eq (pe_ix ix_tup (pv 11) pe_int (fun _ _ => rfl)) (pe_ix ix_tup (pv 10) pe_int (fun _ _ => rfl)) (nomark _)) (pe_cmpR op_eq (pe_ix ix_tup (pv 11) pe_int (fun _ _ => rfl)) (pe_ix ix_tup (pv 10) pe_int (fun _ _ => rfl)) (nomark _)) (nomark _)))) (fun _ _ _ _ _ => (pv 11))) (pe_lst pa_nil) (nomark _)) (pss_one (ps_ret pe_bl))
    pss_nil)))))
    (pss_one (ps_ret (pe_c (ok_L_full T) hr (by decide) (by rfl) (pa_cons (pe_op op_add pe_int (pe_op op_mod (pe_c (ok_L_cell T) hr (by decide) (by rfl) (pa_cons (pv 0) (pa_cons pe_int pa_nil))) pe_int)) pa_nil)))))))))), vr_law vs H Q E h⟩
theorem facts {P : Program} {w : World} {K : PySem.W.Frag} {h : Heap} {mg : Str → Option Value} {f : Addr} (X : K.In h) (G : h.Ns mainGlobals mg) (hfa : mg ("law" : Str) = some (.ref f)) (c : He.SaysD faD fnD K) (x : exD K = true) :
    ∃ fd : FuncData, (∀ (s : Shared) (v : Value), BindsTo s fd ⟨[v], []⟩ [("_law_script", v)]) ∧ ∀ base : Heap, K.In base → base.Ns mainGlobals mg → FnOk P w K mg base CX0 20 f fd ["_law_script"] (sp_law K) := by
  have T : Tx K mg := tx_of X G c x
  obtain ⟨fd, F⟩ := c.def_ 25 (d := dd_law) rfl
  have e := hfa.symm.trans (He.glo_ok X G (c.fact 8 (f := .glo "law") rfl))
  cases e
  have b := FunD.bindsA (ps := ["_law_script"]) F fun _ _ _ _ _ _ us hl => match us, hl with | [_], _ => rfl
  refine ⟨fd, fun s v => b s [v] rfl, fun base _ _ => ?_⟩
  exact fn_law F T
end K28
open PySem PySem.W PySem.Calls PyProof.Rows
set_option maxHeartbeats 0 in
theorem PySem.Challenge.cw_wireyard_k28_diagrams_holds : PySem.Challenge.rw_wireyard_k28_diagrams.Holds := by
  w_on; o_law
  refine HandSHeadRun.head_any (r := K28.R) (q := view K28.R.prog [20]) (H := K28.hk) (ob := K28.ob) (M := 8000) (loose := K28.loose) (d := HandSHeadRun.topDef K28.R.prog 20) (kwd := []) K28.ob_eq
    (by kernel_rfl) (fun s => by kernel_rfl) K28.run (by kernel_rfl) (by kernel_rfl) (by kernel_rfl) (by rfl) (by first | assumption | decide +kernel) (by decide +kernel) ⟨rfl, rfl, rfl, rfl, rfl, by decide +kernel⟩ ?hw ?hc
  case hw => w_witness2
  case hc =>
    refine L2.walk_ofE (l := PySem.Challenge.rw_wireyard_k28_diagrams) (n := 63) (k := 20) (x := "_law_script") (CX := L2.CX0) rfl (by decide) (by kernel_rfl) ⟨rfl, by decide, by decide⟩ ?F (fun _ _ _ _ z => z)
    intro w mg fa h Y G hmg0
    obtain ⟨K, KX, c, x⟩ := Y
    have hmg : mg ("law" : PySem.Str) = some (.ref fa) := by
      have e : (HandSHeadRun.topDef K28.R.prog 20).name = ("law" : PySem.Str) := by kernel_rfl
      rw [← e]
      exact hmg0
    obtain ⟨fd, hb, hF⟩ := K28.facts (P := (PySem.Challenge.rw_wireyard_k28_diagrams).prog) (w := w) KX G hmg c x
    exact ⟨K, fd, K28.sp_law K, KX, hb, fun H a ns hl _ hS => ⟨a, ns, rfl, hS, hl, fun _ _ => rfl⟩, hF⟩
