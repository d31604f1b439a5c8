import PyProof.Rows.All
import Wide.All
import OpenK.AllK
import Wide.FinOn
import HandS.Base
import HandS.Call
import HandS.List
import HandS.Comp
import HandS.Ends
import HandS.Dict
import HandS.Iter
import HandS.Text
import HandS.Words
import HandS.WordsList
import HandS.WordsDict
import HandS.Conv
import HandS.Codes
import HandS.Wide
import HandS.Style
import KE.KTupSum
import HandS.Walk
import HandS.More
import HandS.Zip
import HandS.IsInst
import HandS.NoneIn
import PyProof.ReprRoads
import PyProof.ReprLen
import KE.KRevSl
import HandS.DeepEq
import HandS.TupAny
import HandS.TupMul
import KE.GoesMore
import KE.GoesEnum
import HandS.Sort
import PyProof.FactsAll.tuple_2
import HandS.RaiseMore
import HandS.TupLe
import KE.DataMinMax
import HandS.WideBits
import HandS.Flt
import KE.KEqNest
import PyProof.Rows.IntBool
import HandS.Defaults
import PySem.Challenge.RW_nonegrowsrich_k03_expressions_of_anythin
set_option Elab.async false
set_option linter.all false
set_option maxRecDepth 100000
set_option maxHeartbeats 4000000
namespace NG
open PySem PySem.Spec PyProof.Rows L2

/-! ### sum of a tuple -/
theorem cr_sumT {X : Cx} (hc : X.calm = true) : CallR X (.builtin "sum") (fun vs H Q => ∃ (a : Addr) (ns : List Int), vs = [V.ref a] ∧ SqT X.K H a (ns.map V.int) ∧ Q (.int ns.sum) H) := by
  intro pins s σ H vs us Q I r h
  obtain ⟨a, ns, rfl, hs, q⟩ := h
  obtain ⟨its, rv, hl, _⟩ := I.tuple hs
  rw [Vals.ref1 r]
  have hi := rv.ints
  obtain ⟨xs, e⟩ := hi.allInts.items
  have hn : numsOf (intItems xs).toList = ns := by rw [← e]; exact hi.numsOf
  rw [nums_intItems] at hn
  rw [e] at hl
  refine PySem.W.ktm_sumG (I.ok.hd hc) hl fun h' tk t' hk => ?_
  rw [preSum_eq, List.take_of_length_le (by simp), hn]
  exact ⟨.int _, H, I.kept hk, ⟨_, rfl⟩, q⟩

/-! ### rules whose reading names the written part, for a comprehension's block -/
theorem ixl {X : Cx} (K : PySem.W.Frag) (h : X.K = K := by rfl) : IxR X (rIxL K) := by
  subst h
  exact ix_list
theorem ixt {X : Cx} (K : PySem.W.Frag) (h : X.K = K := by rfl) : IxR X (rIxT K) := by
  subst h
  exact ix_tup
theorem lenK {X : Cx} (K : PySem.W.Frag) (h : X.K = K := by rfl) : CallR X (.builtin "len") (fun xs H Q => ∃ p ys, xs = [.ref p] ∧ (SqL K H p ys ∨ SqT K H p ys) ∧ Q (.int ys.length) H) := by
  subst h
  exact call_len_seq
theorem sumT {X : Cx} (K : PySem.W.Frag) (hc : X.calm = true) (h : X.K = K := by rfl) : CallR X (.builtin "sum") (fun vs H Q => ∃ (a : Addr) (ns : List Int), vs = [V.ref a] ∧ SqT K H a (ns.map V.int) ∧ Q (.int ns.sum) H) := by
  subst h
  exact cr_sumT hc
theorem sumL {X : Cx} (K : PySem.W.Frag) (hc : X.calm = true) (h : X.K = K := by rfl) : CallR X (.builtin "sum") (rSum K) := by
  subst h
  exact cr_sum hc

/-! ### short words -/
theorem iteFF {c : Bool} {A B : Prop} (hc : c = false) (h : B) : if c = true then A else B := by
  subst hc
  exact iteF h
theorem iteTT {c : Bool} {A B : Prop} (hc : c = true) (h : A) : if c = true then A else B := by
  subst hc
  exact iteT h
theorem iteD {p : Prop} [Decidable p] {A B : Prop} (h1 : p → A) (h2 : ¬ p → B) : if decide p = true then A else B := by
  by_cases h : p
  · rw [decide_eq_true h]
    exact iteT (h1 h)
  · rw [decide_eq_false h]
    exact iteF (h2 h)
theorem at_mem {xs : List V} {i : Int} (h0 : 0 ≤ i) (h1 : i < xs.length) : ∃ v, atI xs i = some v ∧ v ∈ xs := by
  have hj : i.toNat < xs.length := by omega
  refine ⟨xs[i.toNat], ?_, List.getElem_mem hj⟩
  exact at_of (j := i.toNat) (by omega) (List.getElem?_eq_getElem hj)
theorem at_int {ns : List Int} {i : Int} (h0 : 0 ≤ i) (h1 : i < ns.length) : atI (ns.map V.int) i = some (.int (ns.getD i.toNat 0)) := by
  have hj : i.toNat < ns.length := by omega
  refine at_of (j := i.toNat) (by omega) ?_
  rw [List.getElem?_map, List.getElem?_eq_getElem hj, List.getD_eq_getElem?_getD, List.getElem?_eq_getElem hj]
  rfl

/-- an expression, with a word behind it -/
def tCutE (t : TE) : TE := fun σ H Q => ∃ M : VK, t σ H M ∧ ∀ v H', M v H' → Q v H'
theorem pe_cut {X : Cx} {e : Expr} {t : TE} (h : PE X e t) : PE X e (tCutE t) :=
  ⟨fun pins s σ H Q I ⟨M, hm, hq⟩ => thn (h.run pins s σ H M I hm) fun u s1 ⟨x, H1, I1, r, q⟩ => ⟨x, H1, I1, r, hq _ _ q⟩⟩

/-! ### heaps: all but one object is as it was -/
def But (a : Addr) (H H' : Hp) : Prop := ∀ b o, b ≠ a → H b = some o → H' b = some o
theorem But.refl (a : Addr) (H : Hp) : But a H H := fun _ _ _ h => h
theorem But.trans {a : Addr} {H H1 H2 : Hp} (x : But a H H1) (y : But a H1 H2) : But a H H2 := fun b o n h => y b o n (x b o n h)
theorem But.of {a : Addr} {H H' : Hp} (x : Same H H') : But a H H' := fun b o _ h => x b o h
theorem But.new {a p : Addr} {H : Hp} {o : HO} (h : H p = none) : But a H (upd H p o) := fun b u _ e => by
  rw [upd_ne (ne_of_none e h)]
  exact e
theorem But.put {a : Addr} {H : Hp} {o : HO} : But a H (upd H a o) := fun b u n e => by
  rw [upd_ne n]
  exact e
theorem But.same {a : Addr} {H H' : Hp} (x : But a H H') (h : H a = none) : Same H H' := fun b o e => x b o (ne_of_none e h) e
theorem same_new {p : Addr} {H : Hp} {o : HO} (h : H p = none) : Same H (upd H p o) := fun b u e => by
  rw [upd_ne (ne_of_none e h)]
  exact e
theorem But.free {a b : Addr} {H H' : Hp} {o : HO} (x : But a H H') (h : H a = some o) (n : H' b = none) (n2 : H' a ≠ none) : H b = none := by
  cases q : H b with
  | none => rfl
  | some u =>
    by_cases e : b = a
    · subst e
      exact absurd n n2
    · rw [x b u e q] at n
      cases n
theorem But.sqt {a p : Addr} {H H' : Hp} {K : PySem.W.Frag} {l xs : List V} (x : But a H H') (h : H a = some (.lst l)) (q : SqT K H p xs) : SqT K H' p xs := by
  rcases q with (q | ⟨o, q⟩) | q
  · exact .inl (.inl (x _ _ (ne_of q h (by intro z; cases z)) q))
  · exact .inl (.inr ⟨o, x _ _ (ne_of q h (by intro z; cases z)) q⟩)
  · exact .inr q
theorem same_sqt {p : Addr} {H H' : Hp} {K : PySem.W.Frag} {xs : List V} (x : Same H H') (q : SqT K H p xs) : SqT K H' p xs := by
  rcases q with (q | ⟨o, q⟩) | q
  · exact .inl (.inl (x _ _ q))
  · exact .inl (.inr ⟨o, x _ _ q⟩)
  · exact .inr q

/-! ### the hand -/
def HandAt (H : Hp) (a : Addr) (n : Nat) : Prop := ∃ g s m : Int, H a = some (.lst [.int g, .int s, .int m]) ∧ 0 ≤ g ∧ 0 ≤ s ∧ 0 ≤ m ∧ m ≤ n
theorem HandAt.le {H : Hp} {a : Addr} {n k : Nat} (h : HandAt H a n) (l : n ≤ k) : HandAt H a k := by
  obtain ⟨g, s, m, e, h1, h2, h3, h4⟩ := h
  exact ⟨g, s, m, e, h1, h2, h3, by omega⟩
theorem HandAt.new {H : Hp} {a p : Addr} {n : Nat} {o : HO} (h : HandAt H a n) (hp : H p = none) : HandAt (upd H p o) a n := by
  obtain ⟨g, s, m, e, h1, h2, h3, h4⟩ := h
  exact ⟨g, s, m, by rw [upd_ne (ne_of_none e hp)]; exact e, h1, h2, h3, h4⟩
theorem HandAt.put {H : Hp} {a p : Addr} {n : Nat} {o : HO} (h : HandAt H a n) (hp : p ≠ a) : HandAt (upd H p o) a n := by
  obtain ⟨g, s, m, e, h1, h2, h3, h4⟩ := h
  exact ⟨g, s, m, by rw [upd_ne (Ne.symm hp)]; exact e, h1, h2, h3, h4⟩
theorem HandAt.ne {H : Hp} {a p : Addr} {n : Nat} (h : HandAt H a n) (hp : H p = none) : p ≠ a := by
  obtain ⟨g, s, m, e, _⟩ := h
  exact (ne_of_none e hp).symm
theorem HandAt.some {H : Hp} {a : Addr} {n : Nat} (h : HandAt H a n) : ∃ l, H a = some (.lst l) := by
  obtain ⟨g, s, m, e, _⟩ := h
  exact ⟨_, e⟩
theorem But.sq {a p : Addr} {H H' : Hp} {K : PySem.W.Frag} {n : Nat} {xs : List V} (x : But a H H') (h : HandAt H a n) (q : SqT K H p xs) : SqT K H' p xs := by
  obtain ⟨l, e⟩ := h.some
  exact x.sqt e q

structure Bl (mg : Str → Option Value) : Prop where
  len : mg "len" = none
  sum : mg "sum" = none
  max : mg "max" = none
  min : mg "min" = none
  abs : mg "abs" = none
  int : mg "int" = none
  tuple : mg "tuple" = none
  range : mg "range" = none
  sorted : mg "sorted" = none
  zip : mg "zip" = none
  isinstance : mg "isinstance" = none
  list : mg "list" = none
  all : mg "all" = none
  repr : mg "repr" = none
  str : mg "str" = none
  enumerate : mg "enumerate" = none

/-! ### a def that may be called by its name -/
structure Cal (P : Program) (w : World) (K : PySem.W.Frag) (mg : Str → Option Value) (base : Heap) (k : Nat) (x : Str) (sp : Sp) : Prop where
  ex : ∃ (f : Addr) (fd : FuncData) (ps : List Str), FnOk P w K mg base CX0 k f fd ps sp ∧ mg x = some (.ref f) ∧ PySem.W.keepIn K (.ref f) = true ∧ Binds K fd ps []
section
variable {X : Cx} {k j : Nat} {x : Str} {sp : Sp} {p pos : Pos} {e : Expr} {es : List Expr} {t : TA}
theorem pe_c (c : Cal X.prog X.w X.K X.mg X.base k x sp) (hr : Room j X.A) (hk : k ≤ j) (hg : Gl X x) (ha : PA X (e :: es) t)
    (hdb : (x == ("__debug__" : Str)) = false := by decide) (he : starEach (e :: es) X.env = (false, eval e X.env) :: starEach es X.env := by rfl) (hpl : (backTo pos (starEach es X.env)).any (·.1) = false := by rfl) :
    PE X (.Call (.Name x p) (e :: es) [] pos) (tCall sp [] E0 t) := by
  obtain ⟨f, fd, ps, F, hm, kp, b⟩ := c.ex
  exact pe_call F (hr.mono hk) hg hm kp b .nil pass0 ha hdb he hpl
end
theorem Cal.mono {P : Program} {w : World} {K : PySem.W.Frag} {mg : Str → Option Value} {base : Heap} {j k : Nat} {x : Str} {sp : Sp} (c : Cal P w K mg base j x sp) (h : j ≤ k) : Cal P w K mg base k x sp := by
  obtain ⟨f, fd, ps, F, r⟩ := c.ex
  exact ⟨f, fd, ps, F.mono h, r⟩

/-! ### promises of the draws -/
def spTake : Sp := fun vs H Q _ => ∃ (a : Addr) (many : Int) (n : Nat), vs = [.ref a, .int many] ∧ 0 < many ∧ many < 2 ^ 62 ∧ HandAt H a n ∧ n ≤ 1000000000 ∧
  ∀ H' r, But a H H' → HandAt H' a (n + 1) → 0 ≤ r → r < many → Q (.int r) H'
def spHand (K : PySem.W.Frag) : Sp := fun vs H Q _ => ∃ (a : Addr) (k : Int) (ns : List Int), vs = [.ref a, .int k] ∧ 0 ≤ k ∧ k < 1000 ∧ SqL K H a (ns.map V.int) ∧
  ∀ p g s, H p = none → 0 ≤ g → 0 ≤ s → Q (.ref p) (upd H p (.lst [.int g, .int s, .int 0]))
/-- an item of a list that is given -/
def spOf (K : PySem.W.Frag) : Sp := fun vs H Q _ => ∃ (a b : Addr) (xs : List V) (n : Nat), vs = [.ref a, .ref b] ∧ a ≠ b ∧ H b = some (.lst xs) ∧ 0 < xs.length ∧ xs.length ≤ 1000 ∧ HandAt H a n ∧ n ≤ 1000000000 ∧
  ∀ H' v, But a H H' → HandAt H' a (n + 1) → v ∈ xs → Q v H'
def spFigure : Sp := fun vs H Q _ => ∃ (a : Addr) (n : Nat), vs = [.ref a] ∧ HandAt H a n ∧ n ≤ 999999990 ∧
  ∀ H' c, But a H H' → HandAt H' a (n + 3) → -1000 ≤ c → c ≤ 1000 → Q (.int c) H'
end NG

namespace NG
open PySem PySem.Spec PyProof.Rows L2

/-! ### expressions -/
inductive W4 where
  | sum | less | least | most
  deriving DecidableEq
def wn : W4 → Str
  | .sum => "sum"
  | .less => "less"
  | .least => "least"
  | .most => "most"
inductive Ex where
  | fig (c : Int) | reg (i : Nat) | share (j : Nat)
  | two (w : W4) (a b : Ex)
  | times (f : Int) (a : Ex) | by (i : Nat) (a : Ex)
  | when (i : Nat) (c : Int) (a b : Ex) | whr (j : Nat) (c : Int) (a b : Ex)
def ExAt (K : PySem.W.Frag) (H : Hp) : Ex → V → Prop
  | .fig c, v => ∃ p, v = .ref p ∧ SqT K H p [.str "fig", .int c]
  | .reg i, v => ∃ p, v = .ref p ∧ SqT K H p [.str "reg", .int (i : Int)]
  | .share j, v => ∃ p, v = .ref p ∧ SqT K H p [.str "share", .int (j : Int)]
  | .two w a b, v => ∃ p x y, v = .ref p ∧ SqT K H p [.str (wn w), x, y] ∧ ExAt K H a x ∧ ExAt K H b y
  | .times f a, v => ∃ p x, v = .ref p ∧ SqT K H p [.str "times", .int f, x] ∧ ExAt K H a x
  | .by i a, v => ∃ p x, v = .ref p ∧ SqT K H p [.str "by", .int (i : Int), x] ∧ ExAt K H a x
  | .when i c a b, v => ∃ p x y, v = .ref p ∧ SqT K H p [.str "when", .int (i : Int), .int c, x, y] ∧ ExAt K H a x ∧ ExAt K H b y
  | .whr j c a b, v => ∃ p x y, v = .ref p ∧ SqT K H p [.str "where", .int (j : Int), .int c, x, y] ∧ ExAt K H a x ∧ ExAt K H b y
theorem ExAt.imp {K : PySem.W.Frag} {H H' : Hp} (h : ∀ p xs, SqT K H p xs → SqT K H' p xs) : ∀ {e : Ex} {v : V}, ExAt K H e v → ExAt K H' e v
  | .fig _, _, ⟨p, e, q⟩ => ⟨p, e, h _ _ q⟩
  | .reg _, _, ⟨p, e, q⟩ => ⟨p, e, h _ _ q⟩
  | .share _, _, ⟨p, e, q⟩ => ⟨p, e, h _ _ q⟩
  | .two _ _ _, _, ⟨p, x, y, e, q, a, b⟩ => ⟨p, x, y, e, h _ _ q, ExAt.imp h a, ExAt.imp h b⟩
  | .times _ _, _, ⟨p, x, e, q, a⟩ => ⟨p, x, e, h _ _ q, ExAt.imp h a⟩
  | .by _ _, _, ⟨p, x, e, q, a⟩ => ⟨p, x, e, h _ _ q, ExAt.imp h a⟩
  | .when _ _ _ _, _, ⟨p, x, y, e, q, a, b⟩ => ⟨p, x, y, e, h _ _ q, ExAt.imp h a, ExAt.imp h b⟩
  | .whr _ _ _ _, _, ⟨p, x, y, e, q, a, b⟩ => ⟨p, x, y, e, h _ _ q, ExAt.imp h a, ExAt.imp h b⟩
theorem ExAt.but {K : PySem.W.Frag} {H H' : Hp} {a : Addr} {n : Nat} {e : Ex} {v : V} (x : ExAt K H e v) (b : But a H H') (h : HandAt H a n) : ExAt K H' e v := x.imp fun _ _ q => b.sq h q
theorem ExAt.same {K : PySem.W.Frag} {H H' : Hp} {e : Ex} {v : V} (x : ExAt K H e v) (b : Same H H') : ExAt K H' e v := x.imp fun _ _ q => same_sqt b q
theorem ExAt.new {K : PySem.W.Frag} {H : Hp} {p : Addr} {o : HO} {e : Ex} {v : V} (x : ExAt K H e v) (n : H p = none) : ExAt K (upd H p o) e v := x.same (same_new n)
def ExOk (many : Nat) : Ex → Prop
  | .fig c => -1000 ≤ c ∧ c ≤ 1000
  | .reg i => i < 4
  | .share j => j < many
  | .two _ a b => ExOk many a ∧ ExOk many b
  | .times f a => (-9 ≤ f ∧ f ≤ 9) ∧ ExOk many a
  | .by i a => i < 4 ∧ ExOk many a
  | .when i c a b => i < 4 ∧ (-1000 ≤ c ∧ c ≤ 1000) ∧ ExOk many a ∧ ExOk many b
  | .whr j c a b => j < many ∧ (1 ≤ c ∧ c ≤ 1000) ∧ ExOk many a ∧ ExOk many b
def Ex.dep : Ex → Nat
  | .fig _ => 1
  | .reg _ => 1
  | .share _ => 1
  | .two _ a b => max a.dep b.dep + 1
  | .times _ a => a.dep + 1
  | .by _ a => a.dep + 1
  | .when _ _ a b => max a.dep b.dep + 1
  | .whr _ _ a b => max a.dep b.dep + 1
def jw : W4 → Int → Int → Int
  | .sum, x, y => x + y
  | .less, x, y => x - y
  | .least, x, y => if y < x then y else x
  | .most, x, y => if y > x then y else x
def wo (rs ss : List Int) : Ex → Int
  | .fig c => c * ss.sum
  | .reg i => rs.getD i 0 * ss.sum
  | .share j => 1000 * ss.getD j 0
  | .two w a b => jw w (wo rs ss a) (wo rs ss b)
  | .times f a => f * wo rs ss a
  | .by i a => rs.getD i 0 * wo rs ss a
  | .when i c a b => if rs.getD i 0 < c then wo rs ss a else wo rs ss b
  | .whr j c a b => if 1000 * ss.getD j 0 < c * ss.sum then wo rs ss a else wo rs ss b
theorem at_nth {ns : List Int} {i : Nat} (h : i < ns.length) : atI (ns.map V.int) (i : Int) = some (.int (ns.getD i 0)) := at_int (by omega) (by omega)

def RegsAt (K : PySem.W.Frag) (H : Hp) (rs : List Int) (v : V) : Prop := ∃ p, v = .ref p ∧ SqT K H p (rs.map V.int) ∧ rs.length = 4 ∧ ∀ x ∈ rs, -1000 ≤ x ∧ x ≤ 1000
def ShAt (K : PySem.W.Frag) (H : Hp) (many : Nat) (ss : List Int) (v : V) : Prop := ∃ p, v = .ref p ∧ SqT K H p (ss.map V.int) ∧ ss.length = many ∧ (∀ x ∈ ss, 0 ≤ x ∧ x < 2 ^ 50) ∧ 0 < ss.sum ∧ ss.sum < 2 ^ 60
theorem RegsAt.imp {K : PySem.W.Frag} {H H' : Hp} {rs : List Int} {v : V} (r : RegsAt K H rs v) (h : ∀ p xs, SqT K H p xs → SqT K H' p xs) : RegsAt K H' rs v := by
  obtain ⟨p, e, q, l⟩ := r
  exact ⟨p, e, h _ _ q, l⟩
theorem ShAt.imp {K : PySem.W.Frag} {H H' : Hp} {many : Nat} {rs : List Int} {v : V} (r : ShAt K H many rs v) (h : ∀ p xs, SqT K H p xs → SqT K H' p xs) : ShAt K H' many rs v := by
  obtain ⟨p, e, q, l⟩ := r
  exact ⟨p, e, h _ _ q, l⟩
theorem getD_mem {ns : List Int} {i : Nat} (h : i < ns.length) : ns.getD i 0 ∈ ns := by
  rw [List.getD_eq_getElem?_getD, List.getElem?_eq_getElem h]
  exact List.getElem_mem h

/-! ### promises -/
def spWorth (K : PySem.W.Frag) (n : Nat) : Sp := fun vs H Q _ => ∃ (v r s : V) (e : Ex) (many : Nat) (rs ss : List Int), vs = [v, r, s] ∧ ExAt K H e v ∧ ExOk many e ∧ e.dep ≤ n ∧ RegsAt K H rs r ∧ ShAt K H many ss s ∧ Q (.int (wo rs ss e)) H
def spJoinW : Sp := fun vs H Q _ => ∃ (w : W4) (x y : Int), vs = [.str (wn w), .int x, .int y] ∧ Q (.int (jw w x y)) H
def spLed (K : PySem.W.Frag) : Sp := fun vs H Q _ => ∃ (p : Addr) (r x y : V) (i : Nat) (c : Int) (rs : List Int), vs = [.ref p, r] ∧ SqT K H p [.str "when", .int (i : Int), .int c, x, y] ∧ i < 4 ∧ RegsAt K H rs r ∧ Q (if rs.getD i 0 < c then x else y) H
def spSide (K : PySem.W.Frag) : Sp := fun vs H Q _ => ∃ (p : Addr) (s x y : V) (many j : Nat) (c : Int) (ss : List Int), vs = [.ref p, s] ∧ SqT K H p [.str "where", .int (j : Int), .int c, x, y] ∧ j < many ∧ (1 ≤ c ∧ c ≤ 1000) ∧ ShAt K H many ss s ∧ Q (if 1000 * ss.getD j 0 < c * ss.sum then x else y) H
def spMills (K : PySem.W.Frag) : Sp := fun vs H Q _ => ∃ (s : V) (many j : Nat) (ss : List Int), vs = [s, .int (j : Int)] ∧ ShAt K H many ss s ∧ j < many ∧ Q (.int (1000 * ss.getD j 0 / ss.sum)) H
def cost : Nat → Nat
  | 0 => 6
  | n + 1 => 2 * cost n + 20
theorem cost_ge (l : Nat) : 6 ≤ cost l := by
  cases l with
  | zero => exact Nat.le_refl _
  | succ l =>
    unfold cost
    omega
def spLeaf (K : PySem.W.Frag) : Sp := fun vs H Q _ => ∃ (a : Addr) (many n : Nat), vs = [.ref a, .int (many : Int)] ∧ 1 ≤ many ∧ many ≤ 1000 ∧ HandAt H a n ∧ n ≤ 999999000 ∧
  ∀ H' v e, But a H H' → HandAt H' a (n + 5) → ExAt K H' e v → ExOk many e → e.dep ≤ 1 → Q v H'
def spExpr (K : PySem.W.Frag) (m : Nat) : Sp := fun vs H Q _ => ∃ (a : Addr) (many l n : Nat), vs = [.ref a, .int (many : Int), .int (l : Int), .int 1] ∧ l < m ∧ 1 ≤ many ∧ many ≤ 1000 ∧ HandAt H a n ∧ n + cost l ≤ 999999000 ∧
  ∀ H' v e, But a H H' → HandAt H' a (n + cost l) → ExAt K H' e v → ExOk many e → e.dep ≤ l + 1 → Q v H'
theorem cal_never {P : Program} {w : World} {K : PySem.W.Frag} {mg : Str → Option Value} {base : Heap} {k : Nat} {x qual : Str} {st : Stmt} {f : Addr} {fd : FuncData} {ps : List Str} {sp : Sp} (F : Fun K x qual st f fd) (gF : mg x = some (.ref f)) (b : Binds K fd ps []) (h : ∀ vs H Q E, ¬ sp vs H Q E) : Cal P w K mg base k x sp :=
  ⟨f, fd, ps, ⟨fun vs H Q E q => absurd q (h _ _ _ _), fun A outer s H args us vs Q E _ _ _ _ q => absurd q (h _ _ _ _)⟩, gF, F.kp, b⟩
theorem fn_never {P : Program} {w : World} {K : PySem.W.Frag} {mg : Str → Option Value} {base : Heap} {k : Nat} {f : Addr} {fd : FuncData} {ps : List Str} {sp : Sp} (h : ∀ vs H Q E, ¬ sp vs H Q E) : FnOk P w K mg base CX0 k f fd ps sp :=
  ⟨fun vs H Q E q => absurd q (h _ _ _ _), fun A outer s H args us vs Q E _ _ _ _ q => absurd q (h _ _ _ _)⟩
end NG

namespace NG
open PySem PySem.Spec PyProof.Rows L2

/-! ### the greatest that divides all -/
def gf (g : Nat) (x : Int) : Nat := Nat.gcd g x.toNat
def gl (ns : List Int) : Nat := ns.foldl gf 0
theorem gl_step {ns : List Int} {i : Nat} {x : Int} (h : ns[i]? = some x) : gl (ns.take (i + 1)) = Nat.gcd (gl (ns.take i)) x.toNat := by
  unfold gl
  rw [List.take_add_one, h, List.foldl_append]
  rfl
theorem gf_dvd : ∀ (ns : List Int) (g : Nat), ns.foldl gf g ∣ g ∧ ∀ x ∈ ns, ns.foldl gf g ∣ x.toNat
  | [], g => ⟨Nat.dvd_refl _, fun x h => by cases h⟩
  | y :: ns, g => by
    obtain ⟨h1, h2⟩ := gf_dvd ns (gf g y)
    refine ⟨Nat.dvd_trans h1 (Nat.gcd_dvd_left _ _), fun x hx => ?_⟩
    rcases List.mem_cons.mp hx with rfl | hx
    · exact Nat.dvd_trans h1 (Nat.gcd_dvd_right _ _)
    · exact h2 x hx
theorem gl_dvd {ns : List Int} {x : Int} (h : x ∈ ns) : gl ns ∣ x.toNat := (gf_dvd ns 0).2 x h
theorem gl_pos {ns : List Int} {x : Int} (h : x ∈ ns) (p : 0 < x) : 0 < gl ns := Nat.pos_of_dvd_of_pos (gl_dvd h) (by omega)
theorem sum_nonneg : ∀ {ms : List Int}, (∀ x ∈ ms, 0 ≤ x) → 0 ≤ ms.sum
  | [], _ => by simp
  | y :: ms, h => by
    have := sum_nonneg (ms := ms) fun x hx => h x (List.mem_cons_of_mem _ hx)
    have := h y List.mem_cons_self
    rw [List.sum_cons]
    omega
theorem sum_pos : ∀ {ms : List Int} {x : Int}, (∀ x ∈ ms, 0 ≤ x) → x ∈ ms → 0 < x → 0 < ms.sum
  | y :: ms, x, h, hx, p => by
    have h1 := sum_nonneg (ms := ms) fun x hx => h x (List.mem_cons_of_mem _ hx)
    have h2 := h y List.mem_cons_self
    rw [List.sum_cons]
    rcases List.mem_cons.mp hx with rfl | hx
    · omega
    · have := sum_pos (ms := ms) (fun x hx => h x (List.mem_cons_of_mem _ hx)) hx p
      omega
theorem sum_le {B : Int} : ∀ {ms : List Int}, (∀ x ∈ ms, x ≤ B) → ms.sum ≤ ms.length * B
  | [], _ => by simp
  | y :: ms, h => by
    have h1 := sum_le (ms := ms) fun x hx => h x (List.mem_cons_of_mem _ hx)
    have h2 := h y List.mem_cons_self
    rw [List.sum_cons, List.length_cons, Int.natCast_succ, Int.add_mul]
    omega
theorem div_le_self' {x : Int} {g : Nat} (h : 0 ≤ x) : x / (g : Int) ≤ x := Int.ediv_le_self _ h
/-- what lowest makes -/
def low (ns : List Int) : List Int := ns.map fun x => x / (gl ns : Int)
theorem low_sh {ns : List Int} (hb : ∀ x ∈ ns, 0 ≤ x ∧ x < 2 ^ 50) (hl : ns.length ≤ 1000) {y : Int} (hy : y ∈ ns) (py : 0 < y) :
    (∀ x ∈ low ns, 0 ≤ x ∧ x < 2 ^ 50) ∧ 0 < (low ns).sum ∧ (low ns).sum < 2 ^ 60 := by
  have hg := gl_pos hy py
  have h1 : ∀ x ∈ low ns, 0 ≤ x ∧ x < 2 ^ 50 := fun x hx => by
    obtain ⟨z, hz, rfl⟩ := List.mem_map.mp hx
    have h2 := hb z hz
    exact ⟨Int.ediv_nonneg h2.1 (by omega), Int.lt_of_le_of_lt (div_le_self' h2.1) h2.2⟩
  refine ⟨h1, ?_, ?_⟩
  · refine sum_pos (x := y / (gl ns : Int)) (fun x hx => (h1 x hx).1) (List.mem_map.mpr ⟨y, hy, rfl⟩) ?_
    have hd : (gl ns : Nat) ≤ y.toNat := Nat.le_of_dvd (by omega) (gl_dvd hy)
    exact Int.ediv_pos_of_pos_of_dvd py (by omega) (by
      have : ((gl ns : Nat) : Int) ∣ ((y.toNat : Nat) : Int) := Int.natCast_dvd_natCast.mpr (gl_dvd hy)
      rwa [Int.toNat_of_nonneg (by omega)] at this)
  · have h3 := sum_le (B := 2 ^ 50) (ms := low ns) fun x hx => Int.le_of_lt (h1 x hx).2
    have h4 : (low ns).length ≤ 1000 := by
      unfold low
      rw [List.length_map]
      exact hl
    have h5 : ((low ns).length : Int) * 2 ^ 50 ≤ 1000 * 2 ^ 50 := Int.mul_le_mul_of_nonneg_right (by omega) (by decide)
    have h6 : (1000 : Int) * 2 ^ 50 < 2 ^ 60 := by decide
    omega
theorem gcd_turn {u v : Nat} : Nat.gcd v (u % v) = Nat.gcd u v := by
  rw [Nat.gcd_comm v, ← Nat.gcd_rec, Nat.gcd_comm]
theorem ixN_of {n : Nat} {r : Int} (h0 : 0 ≤ r) (h1 : r < n) : ixN n r = some r.toNat := by
  unfold ixN
  rw [if_pos h0, if_pos h1]

theorem tYes_in {σ : L2.St} {H : Hp} {A B : Hp → Prop} (h : A H) : tYes σ H (fun b H3 => if b = true then A H3 else B H3) := by
  show if true = true then A H else B H
  exact iteT h

/-! ### promises -/
def spLow (K : PySem.W.Frag) : Sp := fun vs H Q _ => ∃ (p : Addr) (ns : List Int) (y : Int), vs = [.ref p] ∧ H p = some (.lst (ns.map V.int)) ∧ (∀ x ∈ ns, 0 ≤ x ∧ x < 2 ^ 50) ∧ ns.length ≤ 1000 ∧ y ∈ ns ∧ 0 < y ∧
  ∀ H' v ms, Same H H' → ShAt K H' ns.length ms v → Q v H'
def spShares (K : PySem.W.Frag) : Sp := fun vs H Q _ => ∃ (a : Addr) (many n : Nat), vs = [.ref a, .int (many : Int)] ∧ 1 ≤ many ∧ many ≤ 3 ∧ HandAt H a n ∧ n ≤ 999998000 ∧
  ∀ H' v ms, But a H H' → HandAt H' a (n + 20) → ShAt K H' many ms v → Q v H'
def spRegs (K : PySem.W.Frag) : Sp := fun vs H Q _ => ∃ (a : Addr) (n : Nat), vs = [.ref a] ∧ HandAt H a n ∧ n ≤ 999998000 ∧
  ∀ H' v rs, But a H H' → HandAt H' a (n + 12) → RegsAt K H' rs v → Q v H'
def spAsked (K : PySem.W.Frag) : Sp := fun vs H Q _ => ∃ (a : Addr) (many n : Nat), vs = [.ref a, .int (many : Int)] ∧ 2 ≤ many ∧ many ≤ 3 ∧ HandAt H a n ∧ n ≤ 999997000 ∧
  ∀ H' v ms, But a H H' → HandAt H' a (n + 25) → ShAt K H' many ms v → Q v H'
end NG

namespace NG
open PySem PySem.Spec PyProof.Rows L2
/-! ### rows of expressions -/
def RowsAt (K : PySem.W.Frag) (H : Hp) : List V → List Ex → Prop
  | [], [] => True
  | v :: vs, e :: es => ExAt K H e v ∧ RowsAt K H vs es
  | _, _ => False
theorem RowsAt.imp {K : PySem.W.Frag} {H H' : Hp} (h : ∀ p xs, SqT K H p xs → SqT K H' p xs) : ∀ {vs : List V} {es : List Ex}, RowsAt K H vs es → RowsAt K H' vs es
  | [], [], _ => trivial
  | _ :: _, _ :: _, ⟨x, r⟩ => ⟨x.imp h, RowsAt.imp h r⟩
theorem RowsAt.same {K : PySem.W.Frag} {H H' : Hp} {vs : List V} {es : List Ex} (r : RowsAt K H vs es) (s : Same H H') : RowsAt K H' vs es := r.imp fun _ _ q => same_sqt s q
theorem RowsAt.len {K : PySem.W.Frag} {H : Hp} : ∀ {vs : List V} {es : List Ex}, RowsAt K H vs es → vs.length = es.length
  | [], [], _ => rfl
  | _ :: _, _ :: _, ⟨_, r⟩ => by rw [List.length_cons, List.length_cons, r.len]
theorem RowsAt.snoc {K : PySem.W.Frag} {H : Hp} {v : V} {e : Ex} (x : ExAt K H e v) : ∀ {vs : List V} {es : List Ex}, RowsAt K H vs es → RowsAt K H (vs ++ [v]) (es ++ [e])
  | [], [], _ => ⟨x, trivial⟩
  | _ :: _, _ :: _, ⟨y, r⟩ => ⟨y, RowsAt.snoc x r⟩
theorem RowsAt.get {K : PySem.W.Frag} {H : Hp} : ∀ {vs : List V} {es : List Ex} {k : Nat} {e : Ex}, RowsAt K H vs es → es[k]? = some e → ∃ v, vs[k]? = some v ∧ ExAt K H e v
  | [], [], _, _, _, h => by simp at h
  | v :: vs, e' :: es, 0, e, ⟨x, r⟩, h => by
    have : e' = e := Option.some.inj h
    subst this
    exact ⟨v, rfl, x⟩
  | v :: vs, e' :: es, k + 1, e, ⟨x, r⟩, h => RowsAt.get (k := k) r h
def pairUp : List Ex → List Ex
  | a :: b :: r => .two .sum a b :: pairUp r
  | _ => []
theorem pairUp_get : ∀ {es : List Ex} {k : Nat} {a b : Ex}, es[2 * k]? = some a → es[2 * k + 1]? = some b → (pairUp es)[k]? = some (.two .sum a b)
  | [], k, _, _, h, _ => by simp at h
  | [_], k, _, _, _, h => by
    have := (List.getElem?_eq_some_iff.mp h).1
    rw [List.length_singleton] at this
    omega
  | x :: y :: r, 0, a, b, h, h2 => by
    have e1 : x = a := Option.some.inj h
    have e2 : y = b := Option.some.inj h2
    rw [← e1, ← e2]
    rfl
  | x :: y :: r, k + 1, a, b, h, h2 => by
    have h : r[2 * k]? = some a := h
    have h2 : r[2 * k + 1]? = some b := h2
    exact pairUp_get (es := r) (k := k) h h2
theorem pairUp_sum (rs ss : List Int) : ∀ {es : List Ex} {k : Nat}, es.length = 2 * k → ((pairUp es).map (wo rs ss)).sum = (es.map (wo rs ss)).sum ∧ (pairUp es).length = k
  | [], k, h => by
    rw [List.length_nil] at h
    exact ⟨rfl, by show 0 = k; omega⟩
  | [_], k, h => by
    rw [List.length_singleton] at h
    omega
  | x :: y :: r, k, h => by
    rw [List.length_cons, List.length_cons] at h
    obtain ⟨h1, h2⟩ := pairUp_sum rs ss (es := r) (k := k - 1) (by omega)
    refine ⟨?_, ?_⟩
    · show (wo rs ss (.two .sum x y) :: (pairUp r).map (wo rs ss)).sum = (wo rs ss x :: wo rs ss y :: r.map (wo rs ss)).sum
      rw [List.sum_cons, List.sum_cons, List.sum_cons, h1]
      show wo rs ss x + wo rs ss y + _ = _
      omega
    · show (pairUp r).length + 1 = k
      omega
theorem pairUp_ok {many d : Nat} : ∀ {es : List Ex}, (∀ e ∈ es, ExOk many e ∧ e.dep ≤ d) → ∀ e ∈ pairUp es, ExOk many e ∧ e.dep ≤ d + 1
  | [], _, e, h => by cases h
  | [_], _, e, h => by cases h
  | x :: y :: r, h, e, he => by
    have hx := h x List.mem_cons_self
    have hy := h y (List.mem_cons_of_mem _ List.mem_cons_self)
    rcases List.mem_cons.mp he with rfl | he
    · refine ⟨⟨hx.1, hy.1⟩, ?_⟩
      show max x.dep y.dep + 1 ≤ d + 1
      omega
    · exact pairUp_ok (es := r) (fun e he => h e (List.mem_cons_of_mem _ (List.mem_cons_of_mem _ he))) e he
def whn (j : Nat) (z : Int) : Ex := .whr j z (.fig 0) (.fig 1)
theorem count_sum (rs ss : List Int) (j : Nat) (h0 : 0 < ss.sum) : ∀ fs : List Int, ((fs.map (whn j)).map (wo rs ss)).sum = ((fs.filter fun z => decide (z ≤ 1000 * ss.getD j 0 / ss.sum)).length : Int) * ss.sum
  | [] => by simp
  | z :: fs => by
    have ih := count_sum rs ss j h0 fs
    have hm : 1000 * ss.getD j 0 / ss.sum < z ↔ 1000 * ss.getD j 0 < z * ss.sum := Int.ediv_lt_iff_lt_mul h0
    show (wo rs ss (whn j z) :: (fs.map (whn j)).map (wo rs ss)).sum = _
    rw [List.sum_cons, ih]
    show (if 1000 * ss.getD j 0 < z * ss.sum then 0 * ss.sum else 1 * ss.sum) + _ = _
    by_cases c : z ≤ 1000 * ss.getD j 0 / ss.sum
    · rw [List.filter_cons_of_pos (by rw [decide_eq_true c]), if_neg (fun q => by have := hm.mpr q; omega), List.length_cons, Int.natCast_succ, Int.add_mul]
      omega
    · rw [List.filter_cons_of_neg (by rw [decide_eq_false c]; exact Bool.false_ne_true), if_pos (hm.mp (by omega))]
      omega
def spCount (K : PySem.W.Frag) : Sp := fun vs H Q _ => ∃ (a : Addr) (many n : Nat) (s : V) (ss : List Int), vs = [.ref a, .int (many : Int), s] ∧ 2 ≤ many ∧ many ≤ 3 ∧ HandAt H a n ∧ n ≤ 999990000 ∧ ShAt K H many ss s ∧
  ∀ H', But a H H' → HandAt H' a (n + 10) → Q (.bl true) H'
end NG

namespace NG
open PySem PySem.Spec PyProof.Rows L2

/-! ### more rules -/
theorem pgtK {X : Cx} (K : PySem.W.Frag) {es : List Expr} {k : Nat} {t : TGs} {n : Nat} {pos : Pos} (hc : X.calm = true) (h : PGs X es t)
    (hn : (assignEach es X.env).length = n := by rfl) (hst : (assignEach es X.env).findIdx? (·.1) = none := by rfl) (hK : X.K = K := by rfl) : PG X (.Tuple es k pos) (gTup K n t) := by
  subst hK
  exact pg_tup hc h hn hst
theorem inK {X : Cx} (K : PySem.W.Frag) (h : X.K = K := by rfl) : OpR X (compareOp .In) (rIn K false) := by
  subst h
  exact op_in_seq
theorem isiK {X : Cx} (K : PySem.W.Frag) (h : X.K = K := by rfl) : CallR X (.builtin "isinstance") (rIsi K) := by
  subst h
  exact call_isi
theorem walk_zipT {K : PySem.W.Frag} {a b : Addr} {xs ys : List V} {n : Nat} (hx : xs.length = n) (hy : ys.length = n) : Walk (RZ.ItzT K a b) n (fun H => SqT K H a xs ∧ SqT K H b ys) (YPair (fun i => xs[i]?) (fun i => ys[i]?)) := by
  refine ⟨fun i H hi q => ?_, fun H q => ⟨xs, ys, q.1, q.2, .inl (by omega)⟩, fun i H v H' hi q y => ?_⟩
  · exact ⟨xs, ys, xs[i]'(by omega), ys[i]'(by omega), q.1, q.2, List.getElem?_eq_getElem _, List.getElem?_eq_getElem _⟩
  · obtain ⟨T, x, z, h1, h2, h3, h4, h5⟩ := y
    exact ⟨T, x, z, h1, h2, h3, h4 xs q.1, h5 ys q.2⟩
def tChain3 (r r' r'' : R2) (ta tb tc td : TE) : TT := fun σ H Q => ta σ H fun x H1 => tb σ H1 fun y H2 => r x y H2 fun z H3 => ∃ k, z = .bl k ∧
  (if k = true then tc σ H3 fun u H4 => r' y u H4 fun z' H5 => ∃ k', z' = .bl k' ∧ (if k' = true then td σ H5 fun v H6 => r'' u v H6 fun z'' H7 => ∃ k'', z'' = .bl k'' ∧ Q k'' H7 else Q false H5) else Q false H3)
theorem pt_chain3 {X : Cx} {a b c d : Expr} {ta tb tc td : TE} {pos : Pos} {o1 o2 o3 : CmpOp} {r1 r2 r3 : R2} (h1 : OpR X (compareOp o1) r1) (h2 : OpR X (compareOp o2) r2) (h3 : OpR X (compareOp o3) r3) (ha : PE X a ta) (hb : PE X b tb) (hc : PE X c tc) (hd : PE X d td)
    (hm : lastMarks [o1, o2, o3] [b, c, d] = false := by with_unfolding_all rfl) : PT X (.Compare a [o1, o2, o3] [b, c, d] pos) (tChain3 r1 r2 r3 ta tb tc td) := by
  refine ⟨fun pins s σ H Q I h => isTrue_chain (thn (ha.run pins s σ H _ I h) fun v1 s1 ⟨x, H1, I1, e1, q1⟩ => test_link (thn (hb.run pins s1 σ H1 _ I1 q1) fun v2 s2 ⟨y, H2, I2, e2, q2⟩ => thn (h1 pins s2 σ H2 x y v1 v2 _ I2 e1 e2 q2) fun v3 s3 ⟨z, H3, I3, e3, k, ek, q3⟩ => ?_)) hm⟩
  subst ek
  cases e3
  refine wpAny_truthy_bool ?_
  cases k with
  | false => exact ite_ff ⟨H3, I3, q3⟩
  | true =>
    refine ite_tt (test_link (thn (hc.run pins s3 σ H3 _ I3 q3) fun v4 s4 ⟨u, H4, I4, e4, q4⟩ => thn (h2 pins s4 σ H4 y u v2 v4 _ I4 e2 e4 q4) fun v5 s5 ⟨z', H5, I5, e5, k', ek', q5⟩ => ?_))
    subst ek'
    cases e5
    refine wpAny_truthy_bool ?_
    cases k' with
    | false => exact ite_ff ⟨H5, I5, q5⟩
    | true =>
      refine ite_tt (test_last (thn (hd.run pins s5 σ H5 _ I5 q5) fun v6 s6 ⟨v, H6, I6, e6, q6⟩ => thn (h3 pins s6 σ H6 u v v4 v6 _ I6 e4 e6 q6) fun v7 s7 ⟨z'', H7, I7, e7, k'', ek'', q7⟩ => ?_))
      subst ek''
      cases e7
      exact wpAny_truthy_bool ⟨H7, I7, q7⟩

/-! ### the shapes of words -/
def shapeOf : Ex → List Str
  | .fig _ => ["figure"]
  | .reg _ => ["place"]
  | .share _ => ["sign"]
  | .two _ _ _ => ["part", "part"]
  | .times _ _ => ["factor", "part"]
  | .by _ _ => ["place", "part"]
  | .when _ _ _ _ => ["place", "figure", "part", "part"]
  | .whr _ _ _ _ => ["sign", "line", "part", "part"]
def wordOf : Ex → Str
  | .fig _ => "fig"
  | .reg _ => "reg"
  | .share _ => "share"
  | .two w _ _ => wn w
  | .times _ _ => "times"
  | .by _ _ => "by"
  | .when _ _ _ _ => "when"
  | .whr _ _ _ _ => "where"
def Shapes (K : PySem.W.Frag) (w : World) (d : Addr) : Prop := ∀ e : Ex, ∃ q, KDct K w d (wordOf e) (.ref q) ∧ ∀ H, SqT K H q ((shapeOf e).map V.str)
def Ex.kids : Ex → List Ex
  | .fig _ => []
  | .reg _ => []
  | .share _ => []
  | .two _ a b => [a, b]
  | .times _ a => [a]
  | .by _ a => [a]
  | .when _ _ a b => [a, b]
  | .whr _ _ a b => [a, b]
/-- the items whose kind is a part -/
def pk : List Str → List V → List V
  | k :: ks, v :: vs => if V.str k = V.str "part" then v :: pk ks vs else pk ks vs
  | _, _ => []
theorem pk_snoc : ∀ {ks : List Str} {vs : List V} {i : Nat} {k : Str} {v : V}, ks[i]? = some k → vs[i]? = some v → pk (ks.take (i + 1)) (vs.take (i + 1)) = pk (ks.take i) (vs.take i) ++ (if V.str k = V.str "part" then [v] else [])
  | [], _, i, _, _, h, _ => by simp at h
  | _ :: _, [], i, _, _, _, h => by simp at h
  | k0 :: ks, v0 :: vs, 0, k, v, h, h2 => by
    have e1 : k0 = k := Option.some.inj h
    have e2 : v0 = v := Option.some.inj h2
    subst e1 e2
    show (if V.str k0 = V.str "part" then v0 :: pk (ks.take 0) (vs.take 0) else pk (ks.take 0) (vs.take 0)) = _
    split <;> rfl
  | k0 :: ks, v0 :: vs, i + 1, k, v, h, h2 => by
    have ih := pk_snoc (ks := ks) (vs := vs) (i := i) h h2
    show (if V.str k0 = V.str "part" then v0 :: pk (ks.take (i + 1)) (vs.take (i + 1)) else pk (ks.take (i + 1)) (vs.take (i + 1))) = (if V.str k0 = V.str "part" then v0 :: pk (ks.take i) (vs.take i) else pk (ks.take i) (vs.take i)) ++ _
    rw [ih]
    split <;> rfl
/-- how an expression lies: its word, then what belongs there -/
theorem ExAt.lies {K : PySem.W.Frag} {H : Hp} : ∀ {e : Ex} {v : V}, ExAt K H e v → ∃ (p : Addr) (xs : List V), v = .ref p ∧ SqT K H p (.str (wordOf e) :: xs) ∧ xs.length = (shapeOf e).length ∧ xs.length ≤ 4 ∧ 0 < xs.length ∧ RowsAt K H (pk (shapeOf e) xs) e.kids
  | .fig _, _, ⟨p, e, q⟩ => ⟨p, _, e, q, rfl, by simp, by simp, trivial⟩
  | .reg _, _, ⟨p, e, q⟩ => ⟨p, _, e, q, rfl, by simp, by simp, trivial⟩
  | .share _, _, ⟨p, e, q⟩ => ⟨p, _, e, q, rfl, by simp, by simp, trivial⟩
  | .two _ _ _, _, ⟨p, x, y, e, q, a, b⟩ => ⟨p, _, e, q, rfl, by simp, by simp, a, b, trivial⟩
  | .times _ _, _, ⟨p, x, e, q, a⟩ => ⟨p, _, e, q, rfl, by simp, by simp, a, trivial⟩
  | .by _ _, _, ⟨p, x, e, q, a⟩ => ⟨p, _, e, q, rfl, by simp, by simp, a, trivial⟩
  | .when _ _ _ _, _, ⟨p, x, y, e, q, a, b⟩ => ⟨p, _, e, q, rfl, by simp, by simp, a, b, trivial⟩
  | .whr _ _ _ _, _, ⟨p, x, y, e, q, a, b⟩ => ⟨p, _, e, q, rfl, by simp, by simp, a, b, trivial⟩
theorem pk_len : ∀ (ks : List Str) (vs : List V), (pk ks vs).length ≤ vs.length
  | [], vs => by
    unfold pk
    exact Nat.zero_le _
  | _ :: _, [] => Nat.le_refl _
  | k :: ks, v :: vs => by
    have := pk_len ks vs
    unfold pk
    split
    · rw [List.length_cons, List.length_cons]
      omega
    · rw [List.length_cons]
      omega

/-! ### spans -/
def mn (x y : Int) : Int := if y < x then y else x
def mx (x y : Int) : Int := if y > x then y else x
theorem mn_le (x y : Int) : mn x y ≤ x ∧ mn x y ≤ y := by unfold mn; split <;> omega
theorem le_mx (x y : Int) : x ≤ mx x y ∧ y ≤ mx x y := by unfold mx; split <;> omega
theorem mn_or (x y : Int) : mn x y = x ∨ mn x y = y := by unfold mn; split <;> simp
theorem mx_or (x y : Int) : mx x y = x ∨ mx x y = y := by unfold mx; split <;> simp
def ab (x : Int) : Int := if x < 0 then -x else x
def js : W4 → Int × Int → Int × Int → Int × Int
  | .sum, x, y => (x.1 + y.1, x.2 + y.2)
  | .less, x, y => (x.1 - y.2, x.2 - y.1)
  | .least, x, y => (mn x.1 y.1, mn x.2 y.2)
  | .most, x, y => (mx x.1 y.1, mx x.2 y.2)
def spn : Ex → Int × Int
  | .fig c => (c, c)
  | .reg _ => (-1000, 1000)
  | .share _ => (0, 1000)
  | .two w a b => js w (spn a) (spn b)
  | .times f a => (mn (f * (spn a).1) (f * (spn a).2), mx (f * (spn a).1) (f * (spn a).2))
  | .by _ a => (-1000 * mx (ab (spn a).1) (ab (spn a).2), 1000 * mx (ab (spn a).1) (ab (spn a).2))
  | .when _ _ a b => (mn (spn a).1 (spn b).1, mx (spn a).2 (spn b).2)
  | .whr _ _ a b => (mn (spn a).1 (spn b).1, mx (spn a).2 (spn b).2)
def SpAt (K : PySem.W.Frag) (H : Hp) (s : Int × Int) (v : V) : Prop := ∃ p, v = .ref p ∧ SqT K H p [.int s.1, .int s.2]
def SpsAt (K : PySem.W.Frag) (H : Hp) : List V → List (Int × Int) → Prop
  | [], [] => True
  | v :: vs, s :: ss => SpAt K H s v ∧ SpsAt K H vs ss
  | _, _ => False
theorem SpsAt.imp {K : PySem.W.Frag} {H H' : Hp} (h : ∀ p xs, SqT K H p xs → SqT K H' p xs) : ∀ {vs : List V} {ss : List (Int × Int)}, SpsAt K H vs ss → SpsAt K H' vs ss
  | [], [], _ => trivial
  | _ :: _, _ :: _, ⟨⟨p, e, q⟩, r⟩ => ⟨⟨p, e, h _ _ q⟩, SpsAt.imp h r⟩
theorem SpsAt.snoc {K : PySem.W.Frag} {H : Hp} {v : V} {s : Int × Int} (x : SpAt K H s v) : ∀ {vs : List V} {ss : List (Int × Int)}, SpsAt K H vs ss → SpsAt K H (vs ++ [v]) (ss ++ [s])
  | [], [], _ => ⟨x, trivial⟩
  | _ :: _, _ :: _, ⟨y, r⟩ => ⟨y, SpsAt.snoc x r⟩
theorem SpsAt.len {K : PySem.W.Frag} {H : Hp} : ∀ {vs : List V} {ss : List (Int × Int)}, SpsAt K H vs ss → vs.length = ss.length
  | [], [], _ => rfl
  | _ :: _, _ :: _, ⟨_, r⟩ => by rw [List.length_cons, List.length_cons, r.len]

theorem int_at {ns : List Int} {i : Nat} {v : V} (h : (ns.map V.int)[i]? = some v) : ∃ z : Int, v = .int z ∧ ns[i]? = some z := by
  rw [List.getElem?_map] at h
  cases e : ns[i]? with
  | none => rw [e] at h; cases h
  | some z => rw [e] at h; exact ⟨z, (Option.some.inj h).symm, rfl⟩
theorem SpsAt.one {K : PySem.W.Frag} {H : Hp} {us : List V} {s : Int × Int} (h : SpsAt K H us [s]) : ∃ p, us = [.ref p] ∧ SqT K H p [.int s.1, .int s.2] := by
  cases us with
  | nil => exact h.elim
  | cons u r =>
    cases r with
    | nil =>
      obtain ⟨⟨p, e, q⟩, _⟩ := h
      exact ⟨p, by rw [e], q⟩
    | cons _ _ => exact h.2.elim
theorem SpsAt.pair {K : PySem.W.Frag} {H : Hp} {us : List V} {s t : Int × Int} (h : SpsAt K H us [s, t]) : ∃ p q, us = [.ref p, .ref q] ∧ SqT K H p [.int s.1, .int s.2] ∧ SqT K H q [.int t.1, .int t.2] := by
  cases us with
  | nil => exact h.elim
  | cons u r =>
    obtain ⟨⟨p, e, q⟩, h2⟩ := h
    obtain ⟨p2, e2, q2⟩ := SpsAt.one h2
    exact ⟨p, p2, by rw [e, e2], q, q2⟩
theorem put_sqt {K : PySem.W.Frag} {H : Hp} {D p : Addr} {us us' xs : List V} (h : H D = some (.lst us)) (q : SqT K H p xs) : SqT K (upd H D (.lst us')) p xs := by
  rcases q with (q | ⟨o, q⟩) | q
  · exact .inl (.inl (by rw [upd_ne (ne_of q h (by intro z; cases z))]; exact q))
  · exact .inl (.inr ⟨o, by rw [upd_ne (ne_of q h (by intro z; cases z))]; exact q⟩)
  · exact .inr q
theorem RowsAt.get' {K : PySem.W.Frag} {H : Hp} : ∀ {vs : List V} {es : List Ex} {k : Nat} {v : V}, RowsAt K H vs es → vs[k]? = some v → ∃ e, es[k]? = some e ∧ ExAt K H e v
  | [], [], _, _, _, h => by simp at h
  | v' :: vs, e :: es, 0, v, ⟨x, r⟩, h => by
    have : v' = v := Option.some.inj h
    subst this
    exact ⟨e, rfl, x⟩
  | v' :: vs, e :: es, k + 1, v, ⟨x, r⟩, h => RowsAt.get' (k := k) r h
theorem mn_of {m a b : Int} (h : m ∈ [a, b]) (hl : ∀ y ∈ [a, b], m ≤ y) : m = mn a b := by
  have h1 := hl a (by simp)
  have h2 := hl b (by simp)
  simp only [List.mem_cons, List.not_mem_nil, or_false] at h
  unfold mn
  split <;> omega
theorem mx_of {m a b : Int} (h : m ∈ [a, b]) (hl : ∀ y ∈ [a, b], y ≤ m) : m = mx a b := by
  have h1 := hl a (by simp)
  have h2 := hl b (by simp)
  simp only [List.mem_cons, List.not_mem_nil, or_false] at h
  unfold mx
  split <;> omega

/-! ### promises -/
def spParts (K : PySem.W.Frag) : Sp := fun vs H Q _ => ∃ (v : V) (e : Ex), vs = [v] ∧ ExAt K H e v ∧ ∀ H' p xs, Same H H' → H p = none → H' p = some (.lst xs) → RowsAt K H' xs e.kids → Q (.ref p) H'
def spJoinS (K : PySem.W.Frag) : Sp := fun vs H Q _ => ∃ (e : Ex) (x y : V) (s t : Int × Int), vs = [.str (wordOf e), x, y] ∧ SpAt K H s x ∧ SpAt K H t y ∧
  ((∃ w a b, e = .two w a b ∧ ∀ H' v, Same H H' → SpAt K H' (js w s t) v → Q v H') ∨ ((∃ i c a b, e = .when i c a b) ∨ (∃ i c a b, e = .whr i c a b)) ∧ ∀ H' v, Same H H' → SpAt K H' (mn s.1 t.1, mx s.2 t.2) v → Q v H')
def spSpan (K : PySem.W.Frag) (n : Nat) : Sp := fun vs H Q _ => ∃ (v : V) (e : Ex) (many : Nat), vs = [v] ∧ ExAt K H e v ∧ ExOk many e ∧ e.dep ≤ n ∧ ∀ H' u, Same H H' → SpAt K H' (spn e) u → Q u H'
theorem kids_dep : ∀ (e : Ex) (k : Ex), k ∈ e.kids → k.dep + 1 ≤ e.dep
  | .fig _, k, h => by cases h
  | .reg _, k, h => by cases h
  | .share _, k, h => by cases h
  | .two w0 a b, k, h => by
    simp only [Ex.kids, List.mem_cons, List.not_mem_nil, or_false] at h
    have e : Ex.dep (.two w0 a b) = max a.dep b.dep + 1 := rfl
    rw [e]
    rcases h with rfl | rfl <;> omega
  | .times _ a, k, h => by
    simp only [Ex.kids, List.mem_cons, List.not_mem_nil, or_false] at h
    subst h
    exact Nat.le_refl _
  | .by _ a, k, h => by
    simp only [Ex.kids, List.mem_cons, List.not_mem_nil, or_false] at h
    subst h
    exact Nat.le_refl _
  | .when i0 c0 a b, k, h => by
    simp only [Ex.kids, List.mem_cons, List.not_mem_nil, or_false] at h
    have e : Ex.dep (.when i0 c0 a b) = max a.dep b.dep + 1 := rfl
    rw [e]
    rcases h with rfl | rfl <;> omega
  | .whr i0 c0 a b, k, h => by
    simp only [Ex.kids, List.mem_cons, List.not_mem_nil, or_false] at h
    have e : Ex.dep (.whr i0 c0 a b) = max a.dep b.dep + 1 := rfl
    rw [e]
    rcases h with rfl | rfl <;> omega
theorem kids_ok {many : Nat} : ∀ (e : Ex) (k : Ex), ExOk many e → k ∈ e.kids → ExOk many k
  | .fig _, k, _, h => by cases h
  | .reg _, k, _, h => by cases h
  | .share _, k, _, h => by cases h
  | .two _ a b, k, o, h => by
    simp only [Ex.kids, List.mem_cons, List.not_mem_nil, or_false] at h
    rcases h with rfl | rfl
    · exact o.1
    · exact o.2
  | .times _ a, k, o, h => by
    simp only [Ex.kids, List.mem_cons, List.not_mem_nil, or_false] at h
    subst h
    exact o.2
  | .by _ a, k, o, h => by
    simp only [Ex.kids, List.mem_cons, List.not_mem_nil, or_false] at h
    subst h
    exact o.2
  | .when _ _ a b, k, o, h => by
    simp only [Ex.kids, List.mem_cons, List.not_mem_nil, or_false] at h
    rcases h with rfl | rfl
    · exact o.2.2.1
    · exact o.2.2.2
  | .whr _ _ a b, k, o, h => by
    simp only [Ex.kids, List.mem_cons, List.not_mem_nil, or_false] at h
    rcases h with rfl | rfl
    · exact o.2.2.1
    · exact o.2.2.2
end NG

namespace NG
open PySem PySem.Spec PyProof.Rows L2
/-! ### what stands around an expression -/
inductive Cx1 where
  | l (w : W4) (x : Ex) | r (w : W4) (x : Ex) | times (f : Int) | by (i : Nat)
  | whenL (i : Nat) (c : Int) (x : Ex) | whenR (i : Nat) (c : Int) (x : Ex) | whrL (j : Nat) (c : Int) (x : Ex) | whrR (j : Nat) (c : Int) (x : Ex)
def Cx1.put : Cx1 → Ex → Ex
  | .l w x, e => .two w e x
  | .r w x, e => .two w x e
  | .times f, e => .times f e
  | .by i, e => .by i e
  | .whenL i c x, e => .when i c e x
  | .whenR i c x, e => .when i c x e
  | .whrL j c x, e => .whr j c e x
  | .whrR j c x, e => .whr j c x e
def Cx1.lay (u : V) : Cx1 → List V × List V
  | .l w _ => ([.str (wn w)], [u])
  | .r w _ => ([.str (wn w), u], [])
  | .times f => ([.str "times", .int f], [])
  | .by i => ([.str "by", .int (i : Int)], [])
  | .whenL i c _ => ([.str "when", .int (i : Int), .int c], [u])
  | .whenR i c _ => ([.str "when", .int (i : Int), .int c, u], [])
  | .whrL j c _ => ([.str "where", .int (j : Int), .int c], [u])
  | .whrR j c _ => ([.str "where", .int (j : Int), .int c, u], [])
def Cx1.leaf (K : PySem.W.Frag) (H : Hp) (u : V) : Cx1 → Prop
  | .l _ x => ExAt K H x u
  | .r _ x => ExAt K H x u
  | .times _ => True
  | .by _ => True
  | .whenL _ _ x => ExAt K H x u
  | .whenR _ _ x => ExAt K H x u
  | .whrL _ _ x => ExAt K H x u
  | .whrR _ _ x => ExAt K H x u
def Cx1.ok (many : Nat) : Cx1 → Prop
  | .l _ x => ExOk many x ∧ x.dep ≤ 1
  | .r _ x => ExOk many x ∧ x.dep ≤ 1
  | .times f => -9 ≤ f ∧ f ≤ 9
  | .by i => i < 4
  | .whenL i c x => i < 4 ∧ (-1000 ≤ c ∧ c ≤ 1000) ∧ ExOk many x ∧ x.dep ≤ 1
  | .whenR i c x => i < 4 ∧ (-1000 ≤ c ∧ c ≤ 1000) ∧ ExOk many x ∧ x.dep ≤ 1
  | .whrL j c x => j < many ∧ (1 ≤ c ∧ c ≤ 1000) ∧ ExOk many x ∧ x.dep ≤ 1
  | .whrR j c x => j < many ∧ (1 ≤ c ∧ c ≤ 1000) ∧ ExOk many x ∧ x.dep ≤ 1
def CtxAt (K : PySem.W.Frag) (H : Hp) (c : Cx1) (v : V) : Prop := ∃ (p pa pr : Addr) (u : V), v = .ref p ∧ SqT K H p [.ref pa, .ref pr] ∧ SqT K H pa (c.lay u).1 ∧ SqT K H pr (c.lay u).2 ∧ c.leaf K H u
theorem CtxAt.imp {K : PySem.W.Frag} {H H' : Hp} {c : Cx1} {v : V} (x : CtxAt K H c v) (h : ∀ p xs, SqT K H p xs → SqT K H' p xs) : CtxAt K H' c v := by
  obtain ⟨p, pa, pr, u, e, q1, q2, q3, lf⟩ := x
  refine ⟨p, pa, pr, u, e, h _ _ q1, h _ _ q2, h _ _ q3, ?_⟩
  cases c with
  | l w x => exact ExAt.imp h lf
  | r w x => exact ExAt.imp h lf
  | times f => trivial
  | «by» i => trivial
  | whenL i c x => exact ExAt.imp h lf
  | whenR i c x => exact ExAt.imp h lf
  | whrL i c x => exact ExAt.imp h lf
  | whrR i c x => exact ExAt.imp h lf
def CtxsAt (K : PySem.W.Frag) (H : Hp) : List V → List Cx1 → Prop
  | [], [] => True
  | v :: vs, c :: cs => CtxAt K H c v ∧ CtxsAt K H vs cs
  | _, _ => False
theorem CtxsAt.imp {K : PySem.W.Frag} {H H' : Hp} (h : ∀ p xs, SqT K H p xs → SqT K H' p xs) : ∀ {vs : List V} {cs : List Cx1}, CtxsAt K H vs cs → CtxsAt K H' vs cs
  | [], [], _ => trivial
  | _ :: _, _ :: _, ⟨x, r⟩ => ⟨x.imp h, CtxsAt.imp h r⟩
theorem CtxsAt.len {K : PySem.W.Frag} {H : Hp} : ∀ {vs : List V} {cs : List Cx1}, CtxsAt K H vs cs → vs.length = cs.length
  | [], [], _ => rfl
  | _ :: _, _ :: _, ⟨_, r⟩ => by rw [List.length_cons, List.length_cons, r.len]
theorem CtxsAt.snoc {K : PySem.W.Frag} {H : Hp} {v : V} {c : Cx1} (x : CtxAt K H c v) : ∀ {vs : List V} {cs : List Cx1}, CtxsAt K H vs cs → CtxsAt K H (vs ++ [v]) (cs ++ [c])
  | [], [], _ => ⟨x, trivial⟩
  | _ :: _, _ :: _, ⟨y, r⟩ => ⟨y, CtxsAt.snoc x r⟩
theorem CtxsAt.get' {K : PySem.W.Frag} {H : Hp} : ∀ {vs : List V} {cs : List Cx1} {k : Nat} {v : V}, CtxsAt K H vs cs → vs[k]? = some v → ∃ c, cs[k]? = some c ∧ CtxAt K H c v
  | [], [], _, _, _, h => by simp at h
  | v' :: vs, e :: es, 0, v, ⟨x, r⟩, h => by
    have : v' = v := Option.some.inj h
    subst this
    exact ⟨e, rfl, x⟩
  | v' :: vs, e :: es, k + 1, v, ⟨x, r⟩, h => CtxsAt.get' (k := k) r h
theorem put_at {K : PySem.W.Frag} {H : Hp} {c : Cx1} {u v : V} {e : Ex} {p : Addr} (hp : SqT K H p ((c.lay u).1 ++ [v] ++ (c.lay u).2)) (lf : c.leaf K H u) (he : ExAt K H e v) : ExAt K H (c.put e) (.ref p) := by
  cases c with
  | l w x => exact ⟨p, v, u, rfl, hp, he, lf⟩
  | r w x => exact ⟨p, u, v, rfl, hp, lf, he⟩
  | times f => exact ⟨p, v, rfl, hp, he⟩
  | «by» i => exact ⟨p, v, rfl, hp, he⟩
  | whenL i c x => exact ⟨p, v, u, rfl, hp, he, lf⟩
  | whenR i c x => exact ⟨p, u, v, rfl, hp, lf, he⟩
  | whrL i c x => exact ⟨p, v, u, rfl, hp, he, lf⟩
  | whrR i c x => exact ⟨p, u, v, rfl, hp, lf, he⟩
theorem put_ok {many : Nat} {c : Cx1} {e : Ex} (o : c.ok many) (oe : ExOk many e) : ExOk many (c.put e) := by
  cases c with
  | l w x => exact ⟨oe, o.1⟩
  | r w x => exact ⟨o.1, oe⟩
  | times f => exact ⟨o, oe⟩
  | «by» i => exact ⟨o, oe⟩
  | whenL i c x => exact ⟨o.1, o.2.1, oe, o.2.2.1⟩
  | whenR i c x => exact ⟨o.1, o.2.1, o.2.2.1, oe⟩
  | whrL i c x => exact ⟨o.1, o.2.1, oe, o.2.2.1⟩
  | whrR i c x => exact ⟨o.1, o.2.1, o.2.2.1, oe⟩
theorem dep_pos (e : Ex) : 1 ≤ e.dep := by cases e <;> (unfold Ex.dep; omega)
theorem put_dep {many : Nat} {c : Cx1} {e : Ex} (o : c.ok many) : (c.put e).dep ≤ e.dep + 1 := by
  have he := dep_pos e
  cases c with
  | l w x => show max e.dep x.dep + 1 ≤ _; have := o.2; omega
  | r w x => show max x.dep e.dep + 1 ≤ _; have := o.2; omega
  | times f => exact Nat.le_refl _
  | «by» i => exact Nat.le_refl _
  | whenL i c x => show max e.dep x.dep + 1 ≤ _; have := o.2.2.2; omega
  | whenR i c x => show max x.dep e.dep + 1 ≤ _; have := o.2.2.2; omega
  | whrL i c x => show max e.dep x.dep + 1 ≤ _; have := o.2.2.2; omega
  | whrR i c x => show max x.dep e.dep + 1 ≤ _; have := o.2.2.2; omega
def putAll (cs : List Cx1) (e : Ex) : Ex := cs.foldl (fun e c => c.put e) e
theorem putAll_ok {many : Nat} : ∀ {cs : List Cx1} {e : Ex}, (∀ c ∈ cs, c.ok many) → ExOk many e → ExOk many (putAll cs e)
  | [], _, _, h => h
  | c :: cs, e, o, h => putAll_ok (cs := cs) (e := c.put e) (fun c' h' => o c' (List.mem_cons_of_mem _ h')) (put_ok (o c List.mem_cons_self) h)
theorem putAll_dep {many : Nat} : ∀ {cs : List Cx1} {e : Ex}, (∀ c ∈ cs, c.ok many) → (putAll cs e).dep ≤ e.dep + cs.length
  | [], _, _ => Nat.le_refl _
  | c :: cs, e, o => by
    have h1 := putAll_dep (cs := cs) (e := c.put e) (fun c' h' => o c' (List.mem_cons_of_mem _ h'))
    have h2 := put_dep (e := e) (o c List.mem_cons_self)
    show (putAll cs (c.put e)).dep ≤ _
    rw [List.length_cons]
    omega
def fac1 (rs : List Int) (F : Int) : Cx1 → Int
  | .times f => F * f
  | .by i => F * rs.getD i 0
  | .r .less _ => 0 - F
  | _ => F
def fac (rs : List Int) (cs : List Cx1) : Int := cs.foldl (fac1 rs) 1

/-! ### a greater part put in -/
def Btw (d m : Int) : Prop := (0 ≤ d ∧ d ≤ m) ∨ (m ≤ d ∧ d ≤ 0)
theorem btw_mul {f d m : Int} (h : Btw d m) : Btw (f * d) (f * m) := by
  rcases Int.le_total 0 f with hf | hf
  · rcases h with ⟨h1, h2⟩ | ⟨h1, h2⟩
    · exact .inl ⟨Int.mul_nonneg hf h1, Int.mul_le_mul_of_nonneg_left h2 hf⟩
    · exact .inr ⟨Int.mul_le_mul_of_nonneg_left h1 hf, Int.mul_nonpos_of_nonneg_of_nonpos hf h2⟩
  · rcases h with ⟨h1, h2⟩ | ⟨h1, h2⟩
    · exact .inr ⟨Int.mul_le_mul_of_nonpos_left hf h2, Int.mul_nonpos_of_nonpos_of_nonneg hf h1⟩
    · exact .inl ⟨Int.mul_nonneg_of_nonpos_of_nonpos hf h2, Int.mul_le_mul_of_nonpos_left hf h1⟩
theorem btw_zero {m : Int} : Btw 0 m := by
  unfold Btw
  omega
theorem btw_jw {d m x y z : Int} (w : W4) (h : Btw d m) (e : d = y - x) (hw : w ≠ .less) : Btw (jw w y z - jw w x z) m := by
  unfold Btw at *
  cases w with
  | sum => simp only [jw]; omega
  | less => exact absurd rfl hw
  | least => simp only [jw]; split <;> split <;> omega
  | most => simp only [jw]; split <;> split <;> omega
theorem btw_jw' {d m x y z : Int} (w : W4) (h : Btw d m) (e : d = y - x) (hw : w ≠ .less) : Btw (jw w z y - jw w z x) m := by
  unfold Btw at *
  cases w with
  | sum => simp only [jw]; omega
  | less => exact absurd rfl hw
  | least => simp only [jw]; split <;> split <;> omega
  | most => simp only [jw]; split <;> split <;> omega
theorem btw_step {rs ss : List Int} {c : Cx1} {e1 e2 : Ex} {F P : Int} (h : Btw (wo rs ss e2 - wo rs ss e1) (F * P)) : Btw (wo rs ss (c.put e2) - wo rs ss (c.put e1)) (fac1 rs F c * P) := by
  cases c with
  | l w x =>
    cases w with
    | less =>
      show Btw ((wo rs ss e2 - wo rs ss x) - (wo rs ss e1 - wo rs ss x)) (F * P)
      rw [show (wo rs ss e2 - wo rs ss x) - (wo rs ss e1 - wo rs ss x) = wo rs ss e2 - wo rs ss e1 by omega]
      exact h
    | sum => exact btw_jw .sum h rfl (by simp)
    | least => exact btw_jw .least h rfl (by simp)
    | most => exact btw_jw .most h rfl (by simp)
  | r w x =>
    cases w with
    | less =>
      show Btw ((wo rs ss x - wo rs ss e2) - (wo rs ss x - wo rs ss e1)) ((0 - F) * P)
      rw [Int.sub_mul, Int.zero_mul]
      unfold Btw at *
      omega
    | sum => exact btw_jw' .sum h rfl (by simp)
    | least => exact btw_jw' .least h rfl (by simp)
    | most => exact btw_jw' .most h rfl (by simp)
  | times f =>
    show Btw (f * wo rs ss e2 - f * wo rs ss e1) (F * f * P)
    rw [← Int.mul_sub, Int.mul_comm F f, Int.mul_assoc]
    exact btw_mul h
  | «by» i =>
    show Btw (rs.getD i 0 * wo rs ss e2 - rs.getD i 0 * wo rs ss e1) (F * rs.getD i 0 * P)
    rw [← Int.mul_sub, Int.mul_comm F, Int.mul_assoc]
    exact btw_mul h
  | whenL i c x =>
    show Btw ((if rs.getD i 0 < c then wo rs ss e2 else wo rs ss x) - (if rs.getD i 0 < c then wo rs ss e1 else wo rs ss x)) (F * P)
    split
    · exact h
    · rw [Int.sub_self]
      exact btw_zero
  | whenR i c x =>
    show Btw ((if rs.getD i 0 < c then wo rs ss x else wo rs ss e2) - (if rs.getD i 0 < c then wo rs ss x else wo rs ss e1)) (F * P)
    split
    · rw [Int.sub_self]
      exact btw_zero
    · exact h
  | whrL j c x =>
    show Btw ((if 1000 * ss.getD j 0 < c * ss.sum then wo rs ss e2 else wo rs ss x) - (if 1000 * ss.getD j 0 < c * ss.sum then wo rs ss e1 else wo rs ss x)) (F * P)
    split
    · exact h
    · rw [Int.sub_self]
      exact btw_zero
  | whrR j c x =>
    show Btw ((if 1000 * ss.getD j 0 < c * ss.sum then wo rs ss x else wo rs ss e2) - (if 1000 * ss.getD j 0 < c * ss.sum then wo rs ss x else wo rs ss e1)) (F * P)
    split
    · rw [Int.sub_self]
      exact btw_zero
    · exact h
theorem btw_all {rs ss : List Int} {P : Int} : ∀ {cs : List Cx1} {e1 e2 : Ex} {F : Int}, Btw (wo rs ss e2 - wo rs ss e1) (F * P) → Btw (wo rs ss (putAll cs e2) - wo rs ss (putAll cs e1)) (cs.foldl (fac1 rs) F * P)
  | [], _, _, _, h => h
  | c :: cs, e1, e2, F, h => btw_all (cs := cs) (e1 := c.put e1) (e2 := c.put e2) (F := fac1 rs F c) (btw_step h)
theorem moved {rs ss : List Int} {cs : List Cx1} {e : Ex} {p : Int} (h : 0 ≤ p * ss.sum) : Btw (wo rs ss (putAll cs (.two .sum e (.fig p))) - wo rs ss (putAll cs e)) (fac rs cs * p * ss.sum) := by
  rw [Int.mul_assoc]
  refine btw_all (F := 1) ?_
  show Btw (wo rs ss e + p * ss.sum - wo rs ss e) (1 * (p * ss.sum))
  rw [Int.one_mul]
  unfold Btw
  omega

/-! ### worths lie in their spans -/
theorem le_sum : ∀ {ss : List Int} {j : Nat}, (∀ x ∈ ss, 0 ≤ x) → j < ss.length → ss.getD j 0 ≤ ss.sum
  | [], _, _, h => by simp at h
  | x :: ss, 0, h, _ => by
    have := sum_nonneg (ms := ss) fun y hy => h y (List.mem_cons_of_mem _ hy)
    show x ≤ (x :: ss).sum
    rw [List.sum_cons]
    omega
  | x :: ss, j + 1, h, hj => by
    have h1 := le_sum (ss := ss) (j := j) (fun y hy => h y (List.mem_cons_of_mem _ hy)) (by simpa using hj)
    have h2 := h x List.mem_cons_self
    show ss.getD j 0 ≤ (x :: ss).sum
    rw [List.sum_cons]
    omega
theorem spn_le : ∀ e : Ex, (spn e).1 ≤ (spn e).2
  | .fig _ => Int.le_refl _
  | .reg _ => by
    show (-1000 : Int) ≤ 1000
    decide
  | .share _ => by
    show (0 : Int) ≤ 1000
    decide
  | .two w a b => by
    have ha := spn_le a
    have hb := spn_le b
    show (js w (spn a) (spn b)).1 ≤ (js w (spn a) (spn b)).2
    cases w with
    | sum => show _ + _ ≤ _ + _; omega
    | less => show _ - _ ≤ _ - _; omega
    | least => show mn _ _ ≤ mn _ _; unfold mn; split <;> split <;> omega
    | most => show mx _ _ ≤ mx _ _; unfold mx; split <;> split <;> omega
  | .times f a => by
    show mn _ _ ≤ mx _ _
    unfold mn mx
    split <;> split <;> omega
  | .by _ a => by
    have h1 : 0 ≤ ab (spn a).1 := by unfold ab; split <;> omega
    have h2 := le_mx (ab (spn a).1) (ab (spn a).2)
    show -1000 * _ ≤ 1000 * _
    omega
  | .when _ _ a b => by
    have ha := spn_le a
    have h1 := mn_le (spn a).1 (spn b).1
    have h2 := le_mx (spn a).2 (spn b).2
    show mn _ _ ≤ mx _ _
    omega
  | .whr _ _ a b => by
    have ha := spn_le a
    have h1 := mn_le (spn a).1 (spn b).1
    have h2 := le_mx (spn a).2 (spn b).2
    show mn _ _ ≤ mx _ _
    omega
theorem mulr_le {a b n : Int} (h : a ≤ b) (hn : 0 ≤ n) : a * n ≤ b * n := Int.mul_le_mul_of_nonneg_right h hn
theorem in_span {many : Nat} {rs ss : List Int} (hr : rs.length = 4) (hrb : ∀ x ∈ rs, -1000 ≤ x ∧ x ≤ 1000) (hs : ss.length = many) (hsb : ∀ x ∈ ss, 0 ≤ x) : ∀ e : Ex, ExOk many e → (spn e).1 * ss.sum ≤ wo rs ss e ∧ wo rs ss e ≤ (spn e).2 * ss.sum
  | .fig c, _ => ⟨Int.le_refl _, Int.le_refl _⟩
  | .reg i, o => by
    have hn := sum_nonneg hsb
    have h := hrb _ (getD_mem (ns := rs) (i := i) (by rw [hr]; exact o))
    exact ⟨mulr_le h.1 hn, mulr_le h.2 hn⟩
  | .share j, o => by
    have o : j < many := o
    have h1 := le_sum (j := j) hsb (by omega)
    have h2 := hsb _ (getD_mem (ns := ss) (i := j) (by omega))
    show 0 * ss.sum ≤ 1000 * ss.getD j 0 ∧ 1000 * ss.getD j 0 ≤ 1000 * ss.sum
    omega
  | .two w a b, o => by
    have ha := in_span hr hrb hs hsb a o.1
    have hb := in_span hr hrb hs hsb b o.2
    have hn := sum_nonneg hsb
    show (js w (spn a) (spn b)).1 * ss.sum ≤ jw w (wo rs ss a) (wo rs ss b) ∧ jw w (wo rs ss a) (wo rs ss b) ≤ (js w (spn a) (spn b)).2 * ss.sum
    cases w with
    | sum =>
      show ((spn a).1 + (spn b).1) * ss.sum ≤ wo rs ss a + wo rs ss b ∧ wo rs ss a + wo rs ss b ≤ ((spn a).2 + (spn b).2) * ss.sum
      rw [Int.add_mul, Int.add_mul]
      omega
    | less =>
      show ((spn a).1 - (spn b).2) * ss.sum ≤ wo rs ss a - wo rs ss b ∧ wo rs ss a - wo rs ss b ≤ ((spn a).2 - (spn b).1) * ss.sum
      rw [Int.sub_mul, Int.sub_mul]
      omega
    | least =>
      have h1 := mn_le (spn a).1 (spn b).1
      have h3 := mulr_le h1.1 hn
      have h4 := mulr_le h1.2 hn
      have h5 := mn_or (spn a).2 (spn b).2
      show mn (spn a).1 (spn b).1 * ss.sum ≤ (if wo rs ss b < wo rs ss a then wo rs ss b else wo rs ss a) ∧ (if wo rs ss b < wo rs ss a then wo rs ss b else wo rs ss a) ≤ mn (spn a).2 (spn b).2 * ss.sum
      rcases h5 with h5 | h5 <;> rw [h5] <;> split <;> omega
    | most =>
      have h1 := le_mx (spn a).2 (spn b).2
      have h3 := mulr_le h1.1 hn
      have h4 := mulr_le h1.2 hn
      have h5 := mx_or (spn a).1 (spn b).1
      show mx (spn a).1 (spn b).1 * ss.sum ≤ (if wo rs ss b > wo rs ss a then wo rs ss b else wo rs ss a) ∧ (if wo rs ss b > wo rs ss a then wo rs ss b else wo rs ss a) ≤ mx (spn a).2 (spn b).2 * ss.sum
      rcases h5 with h5 | h5 <;> rw [h5] <;> split <;> omega
  | .times f a, o => by
    have ha := in_span hr hrb hs hsb a o.2
    have hn := sum_nonneg hsb
    have m1 := mn_le (f * (spn a).1) (f * (spn a).2)
    have m2 := le_mx (f * (spn a).1) (f * (spn a).2)
    have n1 := mulr_le m1.1 hn
    have n2 := mulr_le m1.2 hn
    have n3 := mulr_le m2.1 hn
    have n4 := mulr_le m2.2 hn
    rw [Int.mul_assoc] at n1 n2 n3 n4
    show mn _ _ * ss.sum ≤ f * wo rs ss a ∧ f * wo rs ss a ≤ mx _ _ * ss.sum
    rcases Int.le_total 0 f with hf | hf
    · have p1 := Int.mul_le_mul_of_nonneg_left ha.1 hf
      have p2 := Int.mul_le_mul_of_nonneg_left ha.2 hf
      omega
    · have p1 := Int.mul_le_mul_of_nonpos_left hf ha.1
      have p2 := Int.mul_le_mul_of_nonpos_left hf ha.2
      omega
  | .by i a, o => by
    have ha := in_span hr hrb hs hsb a o.2
    have hn := sum_nonneg hsb
    have hg := hrb _ (getD_mem (ns := rs) (i := i) (by rw [hr]; exact o.1))
    generalize ht : mx (ab (spn a).1) (ab (spn a).2) = t
    have t1 : -t ≤ (spn a).1 ∧ (spn a).2 ≤ t := by
      have h2 := le_mx (ab (spn a).1) (ab (spn a).2)
      rw [ht] at h2
      have h3 : -(spn a).1 ≤ ab (spn a).1 := by unfold ab; split <;> omega
      have h4 : (spn a).2 ≤ ab (spn a).2 := by unfold ab; split <;> omega
      omega
    have w1 : -(t * ss.sum) ≤ wo rs ss a := by
      have := mulr_le t1.1 hn
      rw [Int.neg_mul] at this
      omega
    have w2 : wo rs ss a ≤ t * ss.sum := by
      have := mulr_le t1.2 hn
      omega
    show (-1000 * mx (ab (spn a).1) (ab (spn a).2)) * ss.sum ≤ rs.getD i 0 * wo rs ss a ∧ rs.getD i 0 * wo rs ss a ≤ (1000 * mx (ab (spn a).1) (ab (spn a).2)) * ss.sum
    rw [ht, Int.mul_assoc, Int.mul_assoc]
    generalize rs.getD i 0 = g at *
    generalize t * ss.sum = T at *
    generalize wo rs ss a = x at *
    have hT : 0 ≤ T := by omega
    rcases Int.le_total 0 g with hgn | hgn
    · have p1 := Int.mul_le_mul_of_nonneg_left w1 hgn
      have p2 := Int.mul_le_mul_of_nonneg_left w2 hgn
      have p3 := Int.mul_le_mul_of_nonneg_right hg.2 hT
      rw [Int.mul_neg] at p1
      omega
    · have p1 := Int.mul_le_mul_of_nonpos_left hgn w1
      have p2 := Int.mul_le_mul_of_nonpos_left hgn w2
      have p3 := Int.mul_le_mul_of_nonneg_right hg.1 hT
      rw [Int.mul_neg] at p1
      omega
  | .when i c a b, o => by
    have ha := in_span hr hrb hs hsb a o.2.2.1
    have hb := in_span hr hrb hs hsb b o.2.2.2
    have hn := sum_nonneg hsb
    have m1 := mn_le (spn a).1 (spn b).1
    have m2 := le_mx (spn a).2 (spn b).2
    have n1 := mulr_le m1.1 hn
    have n2 := mulr_le m1.2 hn
    have n3 := mulr_le m2.1 hn
    have n4 := mulr_le m2.2 hn
    show mn _ _ * ss.sum ≤ (if rs.getD i 0 < c then wo rs ss a else wo rs ss b) ∧ (if rs.getD i 0 < c then wo rs ss a else wo rs ss b) ≤ mx _ _ * ss.sum
    split <;> omega
  | .whr j c a b, o => by
    have ha := in_span hr hrb hs hsb a o.2.2.1
    have hb := in_span hr hrb hs hsb b o.2.2.2
    have hn := sum_nonneg hsb
    have m1 := mn_le (spn a).1 (spn b).1
    have m2 := le_mx (spn a).2 (spn b).2
    have n1 := mulr_le m1.1 hn
    have n2 := mulr_le m1.2 hn
    have n3 := mulr_le m2.1 hn
    have n4 := mulr_le m2.2 hn
    show mn _ _ * ss.sum ≤ (if 1000 * ss.getD j 0 < c * ss.sum then wo rs ss a else wo rs ss b) ∧ (if 1000 * ss.getD j 0 < c * ss.sum then wo rs ss a else wo rs ss b) ≤ mx _ _ * ss.sum
    split <;> omega

/-! ### promises -/
def spAround (K : PySem.W.Frag) : Sp := fun vs H Q _ => ∃ (a : Addr) (many n : Nat), vs = [.ref a, .int (many : Int)] ∧ 2 ≤ many ∧ many ≤ 3 ∧ HandAt H a n ∧ n ≤ 999998000 ∧
  ∀ H' p xs cs, But a H H' → HandAt H' a (n + 90) → p ≠ a → H' p = some (.lst xs) → CtxsAt K H' xs cs → (∀ c ∈ cs, c.ok many) → cs.length ≤ 4 → Q (.ref p) H'
def spPut (K : PySem.W.Frag) : Sp := fun vs H Q _ => ∃ (p : Addr) (v : V) (xs : List V) (cs : List Cx1) (e : Ex), vs = [.ref p, v] ∧ H p = some (.lst xs) ∧ CtxsAt K H xs cs ∧ ExAt K H e v ∧ ∀ H' u, Same H H' → ExAt K H' (putAll cs e) u → Q u H'
def spFac (K : PySem.W.Frag) (many : Nat) : Sp := fun vs H Q _ => ∃ (p : Addr) (r : V) (xs : List V) (cs : List Cx1) (rs : List Int), vs = [.ref p, r] ∧ H p = some (.lst xs) ∧ CtxsAt K H xs cs ∧ (∀ c ∈ cs, c.ok many) ∧ RegsAt K H rs r ∧ Q (.int (fac rs cs)) H
end NG

namespace NG
open PySem PySem.Spec PyProof.Rows L2

/-! ### promises that are kept while no repr is under way -/
structure FnG (P : Program) (w : World) (K : PySem.W.Frag) (mg : Str → Option Value) (base : Heap) (k : Nat) (f : Addr) (fd : FuncData) (ps : List Str) (sp : Sp) : Prop where
  len : ∀ vs H Q E, sp vs H Q E → vs.length = ps.length
  run : ∀ (A : Around) (outer : List Env) (s : Shared) (H : Hp) (args : Args) (us : List Value) (vs : List V) (Q : VK), A.guards = some [] → Room k A → Env0 P w K mg base A outer s H → BindsTo s fd args (ps.zip us) → Vals vs us → sp vs H Q E0 →
    codeAny (model P w) A (.call (.ref f) args) (CR CX0 outer P w H s Q E0) s
theorem FnG.of {P : Program} {w : World} {K : PySem.W.Frag} {mg : Str → Option Value} {base : Heap} {k : Nat} {f : Addr} {fd : FuncData} {ps : List Str} {sp : Sp} (F : FnOk P w K mg base CX0 k f fd ps sp) : FnG P w K mg base k f fd ps sp :=
  ⟨F.len, fun A outer s H args us vs Q _ hr he hb hv hs => F.run A outer s H args us vs Q E0 hr he hb hv hs⟩
theorem fnG {P : Program} {w : World} {K : PySem.W.Frag} {mg : Str → Option Value} {base : Heap} {x qual : Str} {st : Stmt} {f : Addr} {fd : FuncData} {N ps : List Str} {k : Nat} {sp : Sp} (F : Fun K x qual st f fd) (S : FnScope N ps (defScope st)) (len : ∀ vs H Q E, sp vs H Q E → vs.length = ps.length)
    (walk : ∀ (cdv : Value) (A : Around) (outer : List Env) (s : Shared) (H : Hp) (vs : List V) (Q : VK), A.guards = some [] → Room k (A.deeper (envOfC qual (defScope st) s.heap.objs.size f cdv)) → sp vs H Q E0 →
      ∃ t, PSs (cxOf CX0 P w K mg base N qual (defScope st) f cdv A outer s H E0).nox (defBody st) t ∧ t { nx := fun _ H' => Q .non H', rt := Q } (start N vs) H) : FnG P w K mg base (k + 1) f fd ps sp := by
  obtain ⟨oc, od, kV, doc, pm, an, cdv, ct, osl, rfl, lk, hcd⟩ := F.ex
  refine ⟨len, fun A outer s H args us vs Q hg hr e0 bd rv hs => ?_⟩
  have inK : K.In s.heap := e0.mod.kin.keeps fun b o e => (e0.bs b o e).1
  have nolim : s.heap.NoLimit := e0.mod.nolimit.keeps fun b o e => (e0.bs b o e).1
  refine codeAny_call_function hr.depth (inK _ _ lk) rfl S.co S.gen rfl (PySem.W.codeRec_of inK hcd) (bd _ _ _ _ ?_)
  refine wpAny_newFunctionEnv_cells S.kind (fun y hy => ?_) fun env he s1 ic => ?_
  · obtain ⟨n, v⟩ := y
    rcases S.par n (List.of_mem_zip hy).1 with z | z
    · exact .inl z
    · exact .inr ⟨z, PySem.W.cellsFrom_some _ _ _ (.inl z)⟩
  subst he
  refine ⟨nolim.keeps ic.toInCall.keep, codeAny_func ?_⟩
  obtain ⟨t, ht, hq⟩ := walk cdv A outer s H vs Q hg (hr.deeper _) hs
  have I := inv_start (CX := CX0) (E := E0) S hr.hd e0 (len _ _ _ _ hs) rv ic
  refine wpAny_mono (ht.nox.run [] s1 (start N vs) H _ I hq) (fun fl s' hf => ?_) fun e s' hf => hf
  match fl, hf with
  | .ret u, ⟨v, σ', H', J, r, q⟩ => exact ⟨v, H', J.os, J.bare, J.base, J.hok, r, q⟩
  | .next, ⟨σ', H', J, q⟩ => exact ⟨.non, H', J.os, J.bare, J.base, J.hok, rfl, q⟩
  | .brk, ⟨_, _, _, q⟩ => exact q.elim
  | .cont, ⟨_, _, _, q⟩ => exact q.elim

structure CalG (P : Program) (w : World) (K : PySem.W.Frag) (mg : Str → Option Value) (base : Heap) (k : Nat) (x : Str) (sp : Sp) : Prop where
  ex : ∃ (f : Addr) (fd : FuncData) (ps : List Str), FnG P w K mg base k f fd ps sp ∧ mg x = some (.ref f) ∧ PySem.W.keepIn K (.ref f) = true ∧ Binds K fd ps []
theorem Cal.g {P : Program} {w : World} {K : PySem.W.Frag} {mg : Str → Option Value} {base : Heap} {k : Nat} {x : Str} {sp : Sp} (c : Cal P w K mg base k x sp) : CalG P w K mg base k x sp := by
  obtain ⟨f, fd, ps, F, r⟩ := c.ex
  exact ⟨f, fd, ps, .of F, r⟩
section
variable {X : Cx} {k j : Nat} {x : Str} {sp : Sp} {p pos : Pos} {e : Expr} {es : List Expr} {t : TA}
theorem pe_g (c : CalG X.prog X.w X.K X.mg X.base k x sp) (hgd : X.A.guards = some []) (hr : Room j X.A) (hk : k ≤ j) (hg : Gl X x) (ha : PA X (e :: es) t)
    (hdb : (x == ("__debug__" : Str)) = false := by decide) (he : starEach (e :: es) X.env = (false, eval e X.env) :: starEach es X.env := by rfl) (hpl : (backTo pos (starEach es X.env)).any (·.1) = false := by rfl) :
    PE X (.Call (.Name x p) (e :: es) [] pos) (tCall sp [] E0 t) := by
  obtain ⟨f, fd, ps, F, hm, kp, b⟩ := c.ex
  refine ⟨fun pins s σ H Q I h => wpAny_Call_Name_kw (ld_glob I hg hm ?_ hdb)⟩
  refine PySem.W.callWith_K (h₀ := X.base) I.ok.mod.kin kp (thn (ha.run pos pins s σ H _ I h) fun us s1 ⟨vs, H1, I1, r, q⟩ => ⟨I1.kIn, ?_⟩) he hpl
  have q : sp (vs ++ []) H1 Q E0 := q
  rw [List.append_nil] at q
  have hl : (us ++ []).length = ps.length := by
    rw [List.append_nil, ← r.length]
    exact F.len _ _ _ _ q
  have bd := b s1 us I1.kIn hl
  rw [List.append_nil] at bd
  refine wpAny_call (codeAny_mono (F.run X.A X.stack s1 H1 ⟨us, []⟩ us vs Q hgd (hr.mono hk) I1.env0 bd r q) fun res s' hq => ?_)
  match res, hq with
  | .ok (.ret u), hq => exact I1.after hq
  | .ok .next, hq => exact False.elim hq
  | .ok .brk, hq => exact False.elim hq
  | .ok .cont, hq => exact False.elim hq
  | .error e, hq => exact False.elim hq
end

/-! ### the law's call -/
theorem lawG {P : Program} {w : World} {K : PySem.W.Frag} {mg mb : Str → Option Value} {k : Nat} {fa a : Addr} {fd : FuncData} {x : Str} {sp : Sp} {st : Shared} {vs : List Value} {ns : List Int}
    (inK : K.In st.heap) (gl : st.heap.Ns mainGlobals mg) (bl : st.heap.Ns builtinsNs mb) (blt : ∀ y : Str, y ≠ "__name__" → mb y = bootBuiltins y) (lim : st.heap.NoLimit) (gens : st.gens = #[])
    (at0 : st.heap.get? a = some { cls := .type "list", data := .seq vs.toArray }) (hint : IntsAre vs ns) (short : ns.length ≤ sizeLine) (room : Room k callerA)
    (F : ∀ base : Heap, K.In base → base.Ns mainGlobals mg → FnG P w K mg base k fa fd [x] sp) (bind : ∀ (s : Shared) (u : Value), BindsTo s fd ⟨[u], []⟩ [(x, u)])
    (prom : ∀ H : Hp, Only H → SqL K H a (ns.map V.int) → sp [.ref a] H (fun v _ => v = .bl true) E0) :
    codeAny (model P w) callerA (.call (.ref fa) ⟨[.ref a], []⟩) (fun r s' => r = .ok (.ret (.bool true)) ∧ OldK st.heap s'.heap ∧ s'.os = st.os ∧ AllBare s'.gens) st := by
  have rel := vals_ints hint
  have go : ∀ H : Hp, Only H → SqL K H a (ns.map V.int) → HOk P w H st.heap → (∀ b, H b ≠ none → b = a ∧ K.lookup b = none) →
      codeAny (model P w) callerA (.call (.ref fa) ⟨[.ref a], []⟩) (fun r s' => r = .ok (.ret (.bool true)) ∧ OldK st.heap s'.heap ∧ s'.os = st.os ∧ AllBare s'.gens) st := by
    intro H on sq ok sole
    have dicts : ∀ {b : Addr} {o : Obj} {es : Array DictEntry} {ep : Nat}, st.heap.get? b = some o → o.data = .dict es ep → H b = none := by
      intro b o es ep e d
      by_cases z : H b = none
      · exact z
      · obtain ⟨rfl, _⟩ := sole b z
        rw [at0] at e
        cases e
        cases d
    have names : ∀ {b : Addr} {m : Str → Option Value}, st.heap.Ns b m → (hidT st.heap H).Ns b m := by
      rintro b m ⟨o, es, ep, e, d, r⟩
      exact ⟨o, es, ep, hidT_get e (dicts e d), d, r⟩
    have kin : K.In (hidT st.heap H) := by
      intro b o e
      refine hidT_get (inK b o e) ?_
      by_cases z : H b = none
      · exact z
      · rw [(sole b z).2] at e
        cases e
    have md : Mod K mg (hidT st.heap H) := by
      obtain ⟨mc, l1, l2⟩ := lim
      exact ⟨kin, names gl, ⟨mb, names bl, blt⟩, ⟨mc, names l1, l2⟩⟩
    have env : Env0 P w K mg (hidT st.heap H) callerA [] st H :=
      ⟨rfl, md, fun b o e => of_hidT e, Nat.le_of_eq (hidT_size _ _), trivial, fun b z => absurd (show b ∈ ([] : List Addr) from z) (by simp), ok, .of_eq gens⟩
    refine codeAny_mono ((F _ kin (names gl)).run callerA [] st H ⟨[.ref a], []⟩ [.ref a] [.ref a] _ rfl room env (bind st (.ref a)) (.cons rfl .nil) (prom H on sq)) fun res s' hq => ?_
    match res, hq with
    | .ok .next, hq => exact False.elim hq
    | .ok .brk, hq => exact False.elim hq
    | .ok .cont, hq => exact False.elim hq
    | .error e, hq => exact False.elim hq
    | .ok (.ret u), ⟨v, H', os, bare, un, ok', r, q⟩ =>
      have q : v = .bl true := q
      subst q
      have r : u = Value.bool true := r
      subst r
      refine ⟨rfl, OldK.of_keep fun b o e => ?_, os, bare⟩
      by_cases z : H b = none
      · exact un.keep b o e z (fun y => absurd (show b ∈ ([] : List Addr) from y) (by simp)) (by simp)
      · rcases on b with y | ⟨ob, xs, y⟩
        · exact absurd y z
        · obtain ⟨p1, _⟩ := ok b _ y
          obtain ⟨p2, _⟩ := ok' b _ (un.frzs b ob _ y)
          rw [e] at p1
          cases p1
          exact p2
  by_cases hk : K.lookup a = none
  · refine go (upd (fun _ => none) a (.frz { cls := .type "list", data := .seq vs.toArray } (.lst (ns.map V.int)))) (fun b => ?_) (.inl (.inr ⟨_, upd_same⟩)) (fun b u z => ?_) (fun b z => ?_)
    · by_cases hb : b = a
      · subst hb
        exact .inr ⟨_, _, upd_same⟩
      · exact .inl (upd_ne hb)
    · by_cases hb : b = a
      · subst hb
        rw [upd_same] at z
        cases z
        exact ⟨at0, by rw [List.length_map]; exact short, vs, _, rel, at0⟩
      · rw [upd_ne hb] at z
        cases z
    · by_cases hb : b = a
      · subst hb
        exact ⟨rfl, hk⟩
      · exact absurd (upd_ne hb) z
  · obtain ⟨o, ho⟩ := Option.ne_none_iff_exists'.mp hk
    have e := inK a o ho
    rw [at0] at e
    cases e
    refine go (fun _ => none) (fun _ => .inl rfl) (.inr ⟨_, vs.toArray, _, ho, rfl, rfl, rfl, ?_, by simpa using rel⟩) (fun b u z => by cases z) (fun b z => absurd rfl z)
    rw [List.size_toArray, hint.length]
    exact short
theorem walkG {l : PySem.W.OpenLaw} {n k : Nat} {q : Program} {loose : List Str} {XP : (Str → Option Value) → Heap → Prop} {YP : World → Heap → Prop} {d : DefRec} {K : Params → PySem.W.Frag} {sp : World → Sp} {x : Str}
    (hn : l.most = some n) (hn2 : n ≤ sizeLine) (hdf : d.params.defaults = []) (hr : Room k callerA) (hY : ∀ (w : World) (h : Heap), YP w h → (K w.params).In h)
    (F : ∀ (w : World) (mg : Str → Option Value) (fa : Addr) (h : Heap), (K w.params).In h → h.Ns mainGlobals mg → mg d.name = some (.ref fa) →
      ∃ fd : FuncData, (∀ (s : Shared) (u : Value), BindsTo s fd ⟨[u], []⟩ [(x, u)]) ∧ ∀ base : Heap, (K w.params).In base → base.Ns mainGlobals mg → FnG l.prog w (K w.params) mg base k fa fd [x] (sp w))
    (hsp : ∀ (w : World) (H : Hp) (a : Addr) (ns : List Int), ns.length ≤ n → Only H → SqL (K w.params) H a (ns.map V.int) → sp w [.ref a] H (fun v _ => v = .bl true) E0) :
    PySem.W.WalkO q loose XP YP l.row.toRowW d [] (fun f vs => PySem.call f vs) := by
  refine Att.attach_call hn hdf fun w s0 s1 mg mb fa o pm cd doc a vs ns G Y _ _ _ hmg hobj hints hlen hg => ?_
  have inK := hY w _ Y
  obtain ⟨fd, hb, hF⟩ := F w mg fa _ inK G.T.g hmg
  exact lawG inK G.T.g G.T.b G.T.builtins G.T.nolimit hg hobj hints (Nat.le_trans hlen hn2) hr hF hb fun H on sq => hsp w H a ns hlen on sq

/-! ### repr -/
mutual
theorem Dp_nodict {K : PySem.W.Frag} {H : Hp} : ∀ {d : PyData} {v : V}, Dp K H v d → d.hasDict = false
  | .none, _, _ => by simp only [PyData.hasDict]
  | .bool _, _, _ => by simp only [PyData.hasDict]
  | .int _, _, _ => by simp only [PyData.hasDict]
  | .str _, _, _ => by simp only [PyData.hasDict]
  | .list ds, _, h => by
    cases h with
    | lst _ h => simp only [PyData.hasDict, DpAll_nodict h]
  | .tuple ds, _, h => by
    cases h with
    | tup _ h => simp only [PyData.hasDict, DpAll_nodict h]
  | .dict _, _, h => by cases h
theorem DpAll_nodict {K : PySem.W.Frag} {H : Hp} : ∀ {ds : List PyData} {vs : List V}, DpAll K H vs ds → PyData.hasDictAll ds = false
  | [], _, _ => by simp only [PyData.hasDictAll]
  | d :: ds, _, h => by
    cases h with
    | cons h1 h2 => simp only [PyData.hasDictAll, Dp_nodict h1, DpAll_nodict h2, Bool.or_self]
end
def rRepr (K : PySem.W.Frag) : List V → Hp → VK → Prop := fun vs H Q => ∃ (p : Addr) (d : PyData), vs = [.ref p] ∧ Dp K H (.ref p) d ∧ d.showable = true ∧ d.depth ≤ 60 ∧ d.shown.length ≤ sizeLine ∧ Q (.str d.shown) H
theorem cr_repr {X : Cx} (hg : X.A.guards = some []) (hu : X.A.units + 64 < cLine) : CallR X (.builtin "repr") (rRepr X.K) := by
  intro pins s σ H vs us Q I r h
  obtain ⟨p, d, rfl, hd, hs, hz, hl, q⟩ := h
  rw [Vals.ref1 r]
  obtain ⟨as, rd⟩ := Dp.reads I d (.ref p) (.ref p) hd rfl
  exact repr_of_reads' rd hs (PyData.noDict_hsm (Dp_nodict hd)) hg (by omega) (fun _ _ e => e) (fun h' u tk hk => ⟨.str _, H, I.kept hk, ⟨_, rfl⟩, q⟩) hl
end NG

namespace NG
open PySem PySem.Spec PyProof.Rows L2

/-! ### xs[::-1] -/
theorem pe_revL {X : Cx} {e st : Expr} {te ts : TE} {pos p2 : Pos} (he : PE X e te) (hs : PE X st ts) : PE X (.Subscript e (.Slice none none (some st) p2) pos)
    (fun σ H Q => te σ H fun x H1 => ts σ H1 fun y H2 => y = .int (-1) ∧ ∃ a xs, x = .ref a ∧ SqL X.K H2 a xs ∧ ∀ p, H2 p = none → Q (.ref p) (upd H2 p (.lst xs.reverse))) := by
  refine ⟨fun pins s σ H Q I h => ?_⟩
  refine Subscript_ (thn (he.run pins s σ H _ I h) fun v s1 ⟨x, H1, I1, r1, q1⟩ => ?_)
  refine wpAny_Slice ?_
  rw [evalPart_none]
  refine wpAny_pure (wpAny_pure ?_)
  rw [evalPart_some]
  refine thn (hs.run pins s1 σ H1 _ I1 q1) fun vk s2 ⟨y, H2, I2, r2, q2⟩ => ?_
  obtain ⟨rfl, a, xs, rfl, hx, q⟩ := q2
  obtain ⟨t, rfl⟩ := r2
  cases r1
  obtain ⟨its, rv, ht, hz⟩ := I2.list hx
  have I3 : Inv X pins σ H2 { s2 with heap := s2.heap.push { cls := .type "slice", data := .fields #[.none, .none, .int (-1) t] } } := I2.kept (t' := s2.toks) fun b ob q => Heap.get?_push_of_some _ q
  obtain ⟨its', rv', ht', _⟩ := I3.list hx
  have hl := rv'.length
  refine tail_any (ops := [.ref a, .ref s2.heap.objs.size]) ht'.isList.typeIs slot_list_getitem.lookup ?_ (by with_unfolding_all rfl)
  refine wpAny_getItem_list_slice ht'.isList (Heap.IsSliceOf.new ..) .none .none (.int (-1) t) (by decide) ?_ (by rw [List.size_toArray]; omega)
  rw [PySem.W.krv_pick]
  refine ⟨.ref _, _, I3.laid (t' := s2.toks) (o := .lst xs.reverse) (fun b ob q => Heap.get?_push_of_some _ q) (Nat.le_refl _) ?_, rfl, q _ (I3.hok.fresh (Nat.le_refl _))⟩
  refine ⟨by rw [List.length_reverse]; exact hz, its'.reverse, 0, ?_, Heap.get?_push_size _ rfl⟩
  have rev : ∀ {xs : List V} {us : List Value}, Vals xs us → Vals xs.reverse us.reverse := by
    intro xs us r
    induction r with
    | nil => exact .nil
    | cons h t ih =>
      rw [List.reverse_cons, List.reverse_cons]
      exact ih.append (.cons h .nil)
  exact rev rv'

/-! ### calls by keywords alone, handed in from the last parameter to the first -/
theorem Vals.rev {xs : List V} {us : List Value} (r : Vals xs us) : Vals xs.reverse us.reverse := by
  induction r with
  | nil => exact .nil
  | cons h t ih =>
    rw [List.reverse_cons, List.reverse_cons]
    exact ih.append (.cons h .nil)
structure CalK (P : Program) (w : World) (K : PySem.W.Frag) (mg : Str → Option Value) (base : Heap) (k : Nat) (x : Str) (ks : List Str) (sp : Sp) : Prop where
  ex : ∃ (f : Addr) (fd : FuncData), FnG P w K mg base k f fd ks.reverse sp ∧ mg x = some (.ref f) ∧ PySem.W.keepIn K (.ref f) = true ∧ ∀ (s : Shared) (ws : List Value), ws.length = ks.length → BindsTo s fd ⟨[], ks.zip ws⟩ (ks.reverse.zip ws.reverse)
section
variable {X : Cx} {k j : Nat} {x : Str} {ks : List Str} {sp : Sp} {p pos : Pos} {kws : List Keyword} {tk : TA}
theorem pe_kw (c : CalK X.prog X.w X.K X.mg X.base k x ks sp) (hgd : X.A.guards = some []) (hr : Room j X.A) (hk : k ≤ j) (hg : Gl X x) (hkw : PK X kws tk) (hall : (backToKw pos (keywordEach kws X.env)).all (·.1.isSome) = true := by rfl) (hks : (backToKw pos (keywordEach kws X.env)).filterMap (·.1) = ks := by rfl)
    (hdb : (x == ("__debug__" : Str)) = false := by decide) (hpl : ((backTo pos (starEach [] X.env)).any (·.1) || (backToKw pos (keywordEach kws X.env)).any (·.1.isNone)) = false := by rfl) :
    PE X (.Call (.Name x p) [] kws pos) (fun σ H Q => tk σ H fun zs H2 => zs.length = ks.length ∧ sp zs.reverse H2 Q E0) := by
  obtain ⟨f, fd, F, hm, kp, b⟩ := c.ex
  refine ⟨fun pins s σ H Q I h => wpAny_Call_Name_kw (ld_glob I hg hm ?_ hdb)⟩
  refine PySem.W.callWith_KW0 (h₀ := X.base) I.ok.mod.kin kp hall (thn (hkw.run pos pins s σ H _ I h) fun ws s2 ⟨zs, H2, I2, rz, hl, q⟩ => ⟨I2.kIn, ?_⟩) hpl
  rw [hks]
  refine wpAny_call (codeAny_mono (F.run X.A X.stack s2 H2 ⟨[], ks.zip ws⟩ ws.reverse zs.reverse Q hgd (hr.mono hk) I2.env0 (b s2 ws (by rw [← rz.length]; exact hl)) (Vals.rev rz) q) fun res s' hq => ?_)
  match res, hq with
  | .ok (.ret u), hq => exact I2.after hq
  | .ok .next, hq => exact False.elim hq
  | .ok .brk, hq => exact False.elim hq
  | .ok .cont, hq => exact False.elim hq
  | .error e, hq => exact False.elim hq
end

/-! ### an expression as its items -/
inductive Itm where
  | s (x : Str) | i (c : Int) | k (e : Ex)
def ItAt (K : PySem.W.Frag) (H : Hp) : Itm → V → Prop
  | .s x, v => v = .str x
  | .i c, v => v = .int c
  | .k e, v => ExAt K H e v
def ItsAt (K : PySem.W.Frag) (H : Hp) : List V → List Itm → Prop
  | [], [] => True
  | v :: vs, t :: ts => ItAt K H t v ∧ ItsAt K H vs ts
  | _, _ => False
def Ex.items : Ex → List Itm
  | .fig c => [.s "fig", .i c]
  | .reg i => [.s "reg", .i (i : Int)]
  | .share j => [.s "share", .i (j : Int)]
  | .two w a b => [.s (wn w), .k a, .k b]
  | .times f a => [.s "times", .i f, .k a]
  | .by i a => [.s "by", .i (i : Int), .k a]
  | .when i c a b => [.s "when", .i (i : Int), .i c, .k a, .k b]
  | .whr j c a b => [.s "where", .i (j : Int), .i c, .k a, .k b]
def kidsI : List Itm → List Ex
  | [] => []
  | .k e :: r => e :: kidsI r
  | .s _ :: r => kidsI r
  | .i _ :: r => kidsI r
theorem kidsI_items (e : Ex) : kidsI e.items = e.kids := by cases e <;> rfl
theorem kidsI_append : ∀ (l r : List Itm), kidsI (l ++ r) = kidsI l ++ kidsI r
  | [], r => rfl
  | .k e :: l, r => by
    show e :: kidsI (l ++ r) = e :: (kidsI l ++ kidsI r)
    rw [kidsI_append l r]
  | .s _ :: l, r => kidsI_append l r
  | .i _ :: l, r => kidsI_append l r
theorem ExAt.its {K : PySem.W.Frag} {H : Hp} : ∀ {e : Ex} {v : V}, ExAt K H e v → ∃ p xs, v = .ref p ∧ SqT K H p xs ∧ ItsAt K H xs e.items
  | .fig _, _, ⟨p, e, q⟩ => ⟨p, _, e, q, rfl, rfl, trivial⟩
  | .reg _, _, ⟨p, e, q⟩ => ⟨p, _, e, q, rfl, rfl, trivial⟩
  | .share _, _, ⟨p, e, q⟩ => ⟨p, _, e, q, rfl, rfl, trivial⟩
  | .two _ _ _, _, ⟨p, x, y, e, q, a, b⟩ => ⟨p, _, e, q, rfl, a, b, trivial⟩
  | .times _ _, _, ⟨p, x, e, q, a⟩ => ⟨p, _, e, q, rfl, rfl, a, trivial⟩
  | .by _ _, _, ⟨p, x, e, q, a⟩ => ⟨p, _, e, q, rfl, rfl, a, trivial⟩
  | .when _ _ _ _, _, ⟨p, x, y, e, q, a, b⟩ => ⟨p, _, e, q, rfl, rfl, rfl, a, b, trivial⟩
  | .whr _ _ _ _, _, ⟨p, x, y, e, q, a, b⟩ => ⟨p, _, e, q, rfl, rfl, rfl, a, b, trivial⟩
theorem ItsAt.get {K : PySem.W.Frag} {H : Hp} : ∀ {vs : List V} {ts : List Itm} {k : Nat} {v : V}, ItsAt K H vs ts → vs[k]? = some v → ∃ t, ts[k]? = some t ∧ ItAt K H t v
  | [], [], _, _, _, h => by simp at h
  | v' :: vs, t :: ts, 0, v, ⟨x, r⟩, h => by
    have : v' = v := Option.some.inj h
    subst this
    exact ⟨t, rfl, x⟩
  | v' :: vs, t :: ts, k + 1, v, ⟨x, r⟩, h => ItsAt.get (k := k) r h
theorem ItsAt.len {K : PySem.W.Frag} {H : Hp} : ∀ {vs : List V} {ts : List Itm}, ItsAt K H vs ts → vs.length = ts.length
  | [], [], _ => rfl
  | _ :: _, _ :: _, ⟨_, r⟩ => by rw [List.length_cons, List.length_cons, r.len]
theorem tyx_tup {K : PySem.W.Frag} {H : Hp} {p : Addr} {xs : List V} (h : SqT K H p xs) : TyX K H (.ref p) (.type "tuple") := by
  rcases h with (h | ⟨o, h⟩) | ⟨o, its, n, h1, h2, _⟩
  · exact .base (.tup h)
  · exact .fTuple h
  · exact .kTuple h1 h2
def Itm.isK : Itm → Bool
  | .k _ => true
  | _ => false
theorem isi_item {K : PySem.W.Frag} {H : Hp} {t : Itm} {v : V} (h : ItAt K H t v) : ∃ ty, TyX K H v ty ∧ PySem.W.kitOne K ty (.type "tuple") = some t.isK := by
  cases t with
  | s x =>
    have h : v = .str x := h
    subst h
    exact ⟨_, .base (.str x), kit_ty (show kitB "str" "tuple" = some false by decide +kernel)⟩
  | i c =>
    have h : v = .int c := h
    subst h
    exact ⟨_, .base (.int c), kit_ty (show kitB "int" "tuple" = some false by decide +kernel)⟩
  | k e =>
    obtain ⟨p, xs, rfl, hp, _⟩ := ExAt.its h
    exact ⟨_, tyx_tup hp, kit_ty (show kitB "tuple" "tuple" = some true by decide +kernel)⟩

/-! ### as data, for repr -/
def toI : Itm → (Ex → PyData) → PyData
  | .s x, _ => .str x
  | .i c, _ => .int c
  | .k e, f => f e
def toD : Ex → PyData
  | .fig c => .tuple [.str "fig", .int c]
  | .reg i => .tuple [.str "reg", .int (i : Int)]
  | .share j => .tuple [.str "share", .int (j : Int)]
  | .two w a b => .tuple [.str (wn w), toD a, toD b]
  | .times f a => .tuple [.str "times", .int f, toD a]
  | .by i a => .tuple [.str "by", .int (i : Int), toD a]
  | .when i c a b => .tuple [.str "when", .int (i : Int), .int c, toD a, toD b]
  | .whr j c a b => .tuple [.str "where", .int (j : Int), .int c, toD a, toD b]
theorem ExAt.dp {K : PySem.W.Frag} {H : Hp} : ∀ {e : Ex} {v : V}, ExAt K H e v → Dp K H v (toD e)
  | .fig _, _, ⟨p, e, q⟩ => by subst e; exact .tup q (.cons (.str _) (.cons (.int _) .nil))
  | .reg _, _, ⟨p, e, q⟩ => by subst e; exact .tup q (.cons (.str _) (.cons (.int _) .nil))
  | .share _, _, ⟨p, e, q⟩ => by subst e; exact .tup q (.cons (.str _) (.cons (.int _) .nil))
  | .two _ _ _, _, ⟨p, x, y, e, q, a, b⟩ => by subst e; exact .tup q (.cons (.str _) (.cons a.dp (.cons b.dp .nil)))
  | .times _ _, _, ⟨p, x, e, q, a⟩ => by subst e; exact .tup q (.cons (.str _) (.cons (.int _) (.cons a.dp .nil)))
  | .by _ _, _, ⟨p, x, e, q, a⟩ => by subst e; exact .tup q (.cons (.str _) (.cons (.int _) (.cons a.dp .nil)))
  | .when _ _ _ _, _, ⟨p, x, y, e, q, a, b⟩ => by subst e; exact .tup q (.cons (.str _) (.cons (.int _) (.cons (.int _) (.cons a.dp (.cons b.dp .nil)))))
  | .whr _ _ _ _, _, ⟨p, x, y, e, q, a, b⟩ => by subst e; exact .tup q (.cons (.str _) (.cons (.int _) (.cons (.int _) (.cons a.dp (.cons b.dp .nil)))))
/-- short enough to be shown: every number below 2 ^ 600, every sign small -/
structure Shw (d : PyData) (w k : Nat) : Prop where
  sh : d.showable = true
  lf : d.leavesShort 700 = true
  wt : d.weight ≤ w
  dp : d.depth ≤ k
theorem log_of {i : Int} (h : i.natAbs < 2 ^ 600) : i.natAbs.log2 < 600 := PySem.Flt.log2_lt_of (by decide) h
theorem Shw.int {i : Int} (h : i.natAbs < 2 ^ 600) : Shw (.int i) 601 0 := by
  have hl := log_of h
  refine ⟨?_, ?_, ?_, Nat.le_refl _⟩
  · show decide (i.natAbs.log2 < 1920) = true
    exact decide_eq_true (by omega)
  · show decide ((PyData.shown (.int i)).length ≤ 700) = true
    refine decide_eq_true ?_
    have e := int_text_length_le (k := 600) (by decide) hl
    show (Str.ofString (toString i)).length ≤ 700
    rw [PySem.ofString_length]
    omega
  · show (if i == 0 then 0 else i.natAbs.log2 + 1) ≤ 601
    split <;> omega
theorem Shw.small {i : Int} (h : i.natAbs < 2 ^ 15) : Shw (.int i) 15 0 := by
  have hl : i.natAbs.log2 < 15 := PySem.Flt.log2_lt_of (by decide) h
  have h6 := Shw.int (i := i) (Nat.lt_of_lt_of_le h (Nat.pow_le_pow_right (by decide) (by decide)))
  refine ⟨h6.sh, h6.lf, ?_, Nat.le_refl _⟩
  show (if i == 0 then 0 else i.natAbs.log2 + 1) ≤ 15
  split <;> omega
theorem Shw.str {x : Str} (h : (x.cps.toList.all fun c => decide (c < 16 ^ 8)) = true) (hl : x.cps.size ≤ 10) : Shw (.str x) 10 0 := ⟨rfl, h, hl, Nat.le_refl _⟩
structure ShwAll (ds : List PyData) (w k : Nat) : Prop where
  sh : PyData.showableAll ds = true
  lf : PyData.leavesShortAll 700 ds = true
  wt : PyData.weightAll ds ≤ w
  dp : PyData.depthAll ds ≤ k
theorem ShwAll.nil {k : Nat} : ShwAll [] 0 k := ⟨rfl, rfl, Nat.le_refl _, Nat.zero_le _⟩
theorem ShwAll.cons {d : PyData} {ds : List PyData} {w1 w2 k1 k2 k : Nat} (h1 : Shw d w1 k1) (h2 : ShwAll ds w2 k2) (hk1 : k1 ≤ k) (hk2 : k2 ≤ k) : ShwAll (d :: ds) (w1 + 1 + w2) k := by
  refine ⟨?_, ?_, ?_, ?_⟩
  · show (d.showable && PyData.showableAll ds) = true
    rw [h1.sh, h2.sh]
    rfl
  · show (d.leavesShort 700 && PyData.leavesShortAll 700 ds) = true
    rw [h1.lf, h2.lf]
    rfl
  · show d.weight + 1 + PyData.weightAll ds ≤ _
    have := h1.wt
    have := h2.wt
    omega
  · show max d.depth (PyData.depthAll ds) ≤ k
    have := h1.dp
    have := h2.dp
    omega
theorem ShwAll.tup {ds : List PyData} {w k : Nat} (h : ShwAll ds w k) : Shw (.tuple ds) w (k + 1) := ⟨h.sh, h.lf, h.wt, by show PyData.depthAll ds + 1 ≤ k + 1; have := h.dp; omega⟩
theorem ShwAll.lst {ds : List PyData} {w k : Nat} (h : ShwAll ds w k) : Shw (.list ds) w (k + 1) := ⟨h.sh, h.lf, h.wt, by show PyData.depthAll ds + 1 ≤ k + 1; have := h.dp; omega⟩
theorem Shw.mono {d : PyData} {w w' k k' : Nat} (h : Shw d w k) (hw : w ≤ w') (hk : k ≤ k') : Shw d w' k' := ⟨h.sh, h.lf, Nat.le_trans h.wt hw, Nat.le_trans h.dp hk⟩
theorem Shw.fits {d : PyData} {w k : Nat} (h : Shw d w k) (hw : w ≤ 20000) : d.shown.length ≤ sizeLine := by
  have := PyData.shown_le 700 (by decide) d h.lf
  have := h.wt
  have e : sizeLine = 16777216 := by decide
  omega
def wgt : Nat → Nat
  | 0 => 0
  | n + 1 => 2 * wgt n + 60
theorem wgt_mono : ∀ {m n : Nat}, m ≤ n → wgt m ≤ wgt n
  | 0, _, _ => Nat.zero_le _
  | m + 1, 0, h => absurd h (by omega)
  | m + 1, n + 1, h => by
    have := wgt_mono (m := m) (n := n) (by omega)
    show 2 * wgt m + 60 ≤ 2 * wgt n + 60
    omega
theorem shw_ex {many : Nat} (hm : many ≤ 1000) : ∀ {e : Ex}, ExOk many e → Shw (toD e) (wgt e.dep) e.dep
  | .fig c, o => (ShwAll.tup (.cons (.str (by decide) (by decide)) (.cons (.small (by have := o.1; have := o.2; omega)) .nil (Nat.le_refl 0) (Nat.le_refl 0)) (Nat.le_refl 0) (Nat.le_refl 0))).mono (show _ ≤ wgt 1 by decide) (show 0 + 1 ≤ 1 by decide)
  | .reg i, o => by
    have o : i < 4 := o
    exact (ShwAll.tup (.cons (.str (by decide) (by decide)) (.cons (.small (by omega)) .nil (Nat.le_refl 0) (Nat.le_refl 0)) (Nat.le_refl 0) (Nat.le_refl 0))).mono (show _ ≤ wgt 1 by decide) (show 0 + 1 ≤ 1 by decide)
  | .share j, o => by
    have o : j < many := o
    exact (ShwAll.tup (.cons (.str (by decide) (by decide)) (.cons (.small (by omega)) .nil (Nat.le_refl 0) (Nat.le_refl 0)) (Nat.le_refl 0) (Nat.le_refl 0))).mono (show _ ≤ wgt 1 by decide) (show 0 + 1 ≤ 1 by decide)
  | .two w a b, o => by
    have ha := shw_ex hm (e := a) o.1
    have hb := shw_ex hm (e := b) o.2
    have hw : Shw (.str (wn w)) 10 0 := by cases w <;> exact .str (by decide) (by decide)
    have h1 := wgt_mono (Nat.le_max_left a.dep b.dep)
    have h2 := wgt_mono (Nat.le_max_right a.dep b.dep)
    refine (ShwAll.tup (.cons hw (.cons ha (.cons hb .nil (Nat.le_refl _) (Nat.zero_le _)) (Nat.le_max_left a.dep b.dep) (Nat.le_max_right a.dep b.dep)) (Nat.zero_le _) (Nat.le_refl _))).mono ?_ (Nat.le_refl _)
    show 10 + 1 + (wgt a.dep + 1 + (wgt b.dep + 1 + 0)) ≤ 2 * wgt (max a.dep b.dep) + 60
    omega
  | .times f a, o => by
    have ha := shw_ex hm (e := a) o.2
    refine (ShwAll.tup (.cons (.str (by decide) (by decide)) (.cons (.small (by have := o.1; omega)) (.cons ha .nil (Nat.le_refl _) (Nat.zero_le _)) (Nat.zero_le _) (Nat.le_refl _)) (Nat.zero_le _) (Nat.le_refl _))).mono ?_ (Nat.le_refl _)
    show 10 + 1 + (15 + 1 + (wgt a.dep + 1 + 0)) ≤ 2 * wgt a.dep + 60
    omega
  | .by i a, o => by
    have ha := shw_ex hm (e := a) o.2
    refine (ShwAll.tup (.cons (.str (by decide) (by decide)) (.cons (.small (by have := o.1; omega)) (.cons ha .nil (Nat.le_refl _) (Nat.zero_le _)) (Nat.zero_le _) (Nat.le_refl _)) (Nat.zero_le _) (Nat.le_refl _))).mono ?_ (Nat.le_refl _)
    show 10 + 1 + (15 + 1 + (wgt a.dep + 1 + 0)) ≤ 2 * wgt a.dep + 60
    omega
  | .when i c a b, o => by
    have ha := shw_ex hm (e := a) o.2.2.1
    have hb := shw_ex hm (e := b) o.2.2.2
    have h1 := wgt_mono (Nat.le_max_left a.dep b.dep)
    have h2 := wgt_mono (Nat.le_max_right a.dep b.dep)
    refine (ShwAll.tup (.cons (.str (by decide) (by decide)) (.cons (.small (by have := o.1; omega)) (.cons (.small (by have := o.2.1; omega)) (.cons ha (.cons hb .nil (Nat.le_refl _) (Nat.zero_le _)) (Nat.le_max_left a.dep b.dep) (Nat.le_max_right a.dep b.dep)) (Nat.zero_le _) (Nat.le_refl _)) (Nat.zero_le _) (Nat.le_refl _)) (Nat.zero_le _) (Nat.le_refl _))).mono ?_ (Nat.le_refl _)
    show 10 + 1 + (15 + 1 + (15 + 1 + (wgt a.dep + 1 + (wgt b.dep + 1 + 0)))) ≤ 2 * wgt (max a.dep b.dep) + 60
    omega
  | .whr i c a b, o => by
    have ha := shw_ex hm (e := a) o.2.2.1
    have hb := shw_ex hm (e := b) o.2.2.2
    have h1 := wgt_mono (Nat.le_max_left a.dep b.dep)
    have h2 := wgt_mono (Nat.le_max_right a.dep b.dep)
    refine (ShwAll.tup (.cons (.str (by decide) (by decide)) (.cons (.small (by have := o.1; omega)) (.cons (.small (by have := o.2.1; omega)) (.cons ha (.cons hb .nil (Nat.le_refl _) (Nat.zero_le _)) (Nat.le_max_left a.dep b.dep) (Nat.le_max_right a.dep b.dep)) (Nat.zero_le _) (Nat.le_refl _)) (Nat.zero_le _) (Nat.le_refl _)) (Nat.zero_le _) (Nat.le_refl _))).mono ?_ (Nat.le_refl _)
    show 10 + 1 + (15 + 1 + (15 + 1 + (wgt a.dep + 1 + (wgt b.dep + 1 + 0)))) ≤ 2 * wgt (max a.dep b.dep) + 60
    omega
/-- numbers of spans and worths stay below 2 ^ 600 -/
theorem spn_bnd : ∀ {many : Nat} {e : Ex}, ExOk many e → (spn e).1.natAbs ≤ 1000 * 2000 ^ e.dep ∧ (spn e).2.natAbs ≤ 1000 * 2000 ^ e.dep := by
  intro many e
  have up : ∀ {m n : Nat}, m ≤ n → 1000 * 2000 ^ m ≤ 1000 * 2000 ^ n := fun h => Nat.mul_le_mul_left _ (Nat.pow_le_pow_right (by decide) h)
  have nx : ∀ n : Nat, 1000 * 2000 ^ (n + 1) = 2000 * (1000 * 2000 ^ n) := fun n => by rw [Nat.pow_succ]; omega
  induction e with
  | fig c =>
    intro o
    have := o.1
    have := o.2
    show c.natAbs ≤ 1000 * 2000 ^ 1 ∧ c.natAbs ≤ 1000 * 2000 ^ 1
    omega
  | reg i =>
    intro o
    show (-1000 : Int).natAbs ≤ 1000 * 2000 ^ 1 ∧ (1000 : Int).natAbs ≤ 1000 * 2000 ^ 1
    decide
  | share j =>
    intro o
    show (0 : Int).natAbs ≤ 1000 * 2000 ^ 1 ∧ (1000 : Int).natAbs ≤ 1000 * 2000 ^ 1
    decide
  | two w a b iha ihb =>
    intro o
    have ha := iha o.1
    have hb := ihb o.2
    have h1 := up (Nat.le_max_left a.dep b.dep)
    have h2 := up (Nat.le_max_right a.dep b.dep)
    show (js w (spn a) (spn b)).1.natAbs ≤ 1000 * 2000 ^ (max a.dep b.dep + 1) ∧ (js w (spn a) (spn b)).2.natAbs ≤ 1000 * 2000 ^ (max a.dep b.dep + 1)
    rw [nx]
    cases w with
    | sum => simp only [js]; omega
    | less => simp only [js]; omega
    | least => simp only [js, mn]; split <;> split <;> omega
    | most => simp only [js, mx]; split <;> split <;> omega
  | times f a ih =>
    intro o
    have ha := ih o.2
    have hf : f.natAbs ≤ 9 := by have := o.1; omega
    have m1 : (f * (spn a).1).natAbs ≤ 9 * (1000 * 2000 ^ a.dep) := by rw [Int.natAbs_mul]; exact Nat.mul_le_mul hf ha.1
    have m2 : (f * (spn a).2).natAbs ≤ 9 * (1000 * 2000 ^ a.dep) := by rw [Int.natAbs_mul]; exact Nat.mul_le_mul hf ha.2
    show (mn _ _).natAbs ≤ 1000 * 2000 ^ (a.dep + 1) ∧ (mx _ _).natAbs ≤ 1000 * 2000 ^ (a.dep + 1)
    rw [nx]
    unfold mn mx
    split <;> split <;> omega
  | «by» i a ih =>
    intro o
    have ha := ih o.2
    have m1 : (mx (ab (spn a).1) (ab (spn a).2)).natAbs ≤ 1000 * 2000 ^ a.dep := by
      unfold mx ab
      repeat' split
      all_goals omega
    show (-1000 * mx _ _).natAbs ≤ 1000 * 2000 ^ (a.dep + 1) ∧ (1000 * mx _ _).natAbs ≤ 1000 * 2000 ^ (a.dep + 1)
    rw [nx]
    omega
  | when i c a b iha ihb =>
    intro o
    have ha := iha o.2.2.1
    have hb := ihb o.2.2.2
    have h1 := up (Nat.le_max_left a.dep b.dep)
    have h2 := up (Nat.le_max_right a.dep b.dep)
    show (mn _ _).natAbs ≤ 1000 * 2000 ^ (max a.dep b.dep + 1) ∧ (mx _ _).natAbs ≤ 1000 * 2000 ^ (max a.dep b.dep + 1)
    rw [nx]
    unfold mn mx
    split <;> split <;> omega
  | whr i c a b iha ihb =>
    intro o
    have ha := iha o.2.2.1
    have hb := ihb o.2.2.2
    have h1 := up (Nat.le_max_left a.dep b.dep)
    have h2 := up (Nat.le_max_right a.dep b.dep)
    show (mn _ _).natAbs ≤ 1000 * 2000 ^ (max a.dep b.dep + 1) ∧ (mx _ _).natAbs ≤ 1000 * 2000 ^ (max a.dep b.dep + 1)
    rw [nx]
    unfold mn mx
    split <;> split <;> omega
theorem bnd_600 {d : Nat} {x : Int} (hd : d ≤ 10) (h : x.natAbs ≤ 1000 * 2000 ^ d) : x.natAbs < 2 ^ 300 := by
  have h1 : 1000 * 2000 ^ d ≤ 1000 * 2000 ^ 10 := Nat.mul_le_mul_left _ (Nat.pow_le_pow_right (by decide) hd)
  have h2 : (1000 * 2000 ^ 10 : Nat) < 2 ^ 300 := by decide
  omega
end NG

namespace NG
open PySem PySem.Spec PyProof.Rows L2

/-! ### leaves and borders -/
def lvs : Ex → Int
  | .fig _ => 1
  | .reg _ => 1
  | .share _ => 1
  | .two .sum a b => lvs a * lvs b
  | .two .less a b => lvs a * lvs b
  | .two .least a b => lvs a + lvs b
  | .two .most a b => lvs a + lvs b
  | .times _ a => lvs a
  | .by _ a => lvs a
  | .when _ _ a b => mx (lvs a) (lvs b)
  | .whr _ _ a b => lvs a + lvs b
def bds : Ex → Int
  | .fig _ => 0
  | .reg _ => 0
  | .share _ => 0
  | .two .sum a b => bds a + bds b
  | .two .less a b => bds a + bds b
  | .two .least a b => bds a + bds b + lvs a * lvs b
  | .two .most a b => bds a + bds b + lvs a * lvs b
  | .times _ a => bds a
  | .by _ a => bds a
  | .when _ _ a b => mx (bds a) (bds b)
  | .whr _ _ a b => bds a + bds b + 1
def bnd : Nat → Nat
  | 0 => 1
  | n + 1 => bnd n * bnd n + 2 * bnd n
theorem bnd_pos : ∀ n, 1 ≤ bnd n
  | 0 => Nat.le_refl _
  | n + 1 => by
    have := bnd_pos n
    show 1 ≤ bnd n * bnd n + 2 * bnd n
    omega
theorem bnd_up : ∀ {m n : Nat}, m ≤ n → bnd m ≤ bnd n := by
  intro m n h
  induction h with
  | refl => exact Nat.le_refl _
  | step _ ih =>
    refine Nat.le_trans ih ?_
    show _ ≤ bnd _ * bnd _ + 2 * bnd _
    omega
theorem lb_bnd : ∀ e : Ex, (lvs e).natAbs ≤ bnd e.dep ∧ (bds e).natAbs ≤ bnd e.dep := by
  intro e
  have pm : ∀ {x y : Int} {B : Nat}, x.natAbs ≤ B → y.natAbs ≤ B → (x * y).natAbs ≤ B * B := fun hx hy => by rw [Int.natAbs_mul]; exact Nat.mul_le_mul hx hy
  induction e with
  | fig c => exact ⟨by show 1 ≤ bnd 1; exact bnd_pos 1, Nat.zero_le _⟩
  | reg c => exact ⟨by show 1 ≤ bnd 1; exact bnd_pos 1, Nat.zero_le _⟩
  | share c => exact ⟨by show 1 ≤ bnd 1; exact bnd_pos 1, Nat.zero_le _⟩
  | two w a b iha ihb =>
    have h1 := bnd_up (Nat.le_max_left a.dep b.dep)
    have h2 := bnd_up (Nat.le_max_right a.dep b.dep)
    have hm := pm (Nat.le_trans iha.1 h1) (Nat.le_trans ihb.1 h2)
    show (lvs (.two w a b)).natAbs ≤ bnd (max a.dep b.dep) * bnd (max a.dep b.dep) + 2 * bnd (max a.dep b.dep) ∧ (bds (.two w a b)).natAbs ≤ bnd (max a.dep b.dep) * bnd (max a.dep b.dep) + 2 * bnd (max a.dep b.dep)
    cases w <;> simp only [lvs, bds] <;> omega
  | times f a ih =>
    show (lvs a).natAbs ≤ bnd a.dep * bnd a.dep + 2 * bnd a.dep ∧ (bds a).natAbs ≤ bnd a.dep * bnd a.dep + 2 * bnd a.dep
    omega
  | «by» i a ih =>
    show (lvs a).natAbs ≤ bnd a.dep * bnd a.dep + 2 * bnd a.dep ∧ (bds a).natAbs ≤ bnd a.dep * bnd a.dep + 2 * bnd a.dep
    omega
  | when i c a b iha ihb =>
    have h1 := bnd_up (Nat.le_max_left a.dep b.dep)
    have h2 := bnd_up (Nat.le_max_right a.dep b.dep)
    show (mx (lvs a) (lvs b)).natAbs ≤ bnd (max a.dep b.dep) * bnd (max a.dep b.dep) + 2 * bnd (max a.dep b.dep) ∧ (mx (bds a) (bds b)).natAbs ≤ bnd (max a.dep b.dep) * bnd (max a.dep b.dep) + 2 * bnd (max a.dep b.dep)
    unfold mx
    split <;> split <;> omega
  | whr i c a b iha ihb =>
    have h1 := bnd_up (Nat.le_max_left a.dep b.dep)
    have h2 := bnd_up (Nat.le_max_right a.dep b.dep)
    have h3 := bnd_pos (max a.dep b.dep)
    have h4 : bnd (max a.dep b.dep) ≤ bnd (max a.dep b.dep) * bnd (max a.dep b.dep) := Nat.le_mul_of_pos_left _ h3
    show (lvs a + lvs b).natAbs ≤ bnd (max a.dep b.dep) * bnd (max a.dep b.dep) + 2 * bnd (max a.dep b.dep) ∧ (bds a + bds b + 1).natAbs ≤ bnd (max a.dep b.dep) * bnd (max a.dep b.dep) + 2 * bnd (max a.dep b.dep)
    omega
theorem lvs_mul {e : Ex} {y : Int} (h : e.dep ≤ 5) : CMul (lvs e) y := by
  have h1 := (lb_bnd e).1
  have h2 := bnd_up h
  have h3 : bnd 5 < 2 ^ 64 := by decide
  exact .inl ⟨by omega, by omega⟩
theorem lb_600 {e : Ex} (h : e.dep ≤ 6) : (lvs e).natAbs < 2 ^ 600 ∧ (bds e).natAbs < 2 ^ 600 := by
  have h1 := lb_bnd e
  have h2 := bnd_up h
  have h3 : bnd 6 < 2 ^ 600 := by decide
  omega
def spCnt (K : PySem.W.Frag) (f : Ex → Int) (n : Nat) : Sp := fun vs H Q _ => ∃ (v : V) (e : Ex) (many : Nat), vs = [v] ∧ ExAt K H e v ∧ ExOk many e ∧ e.dep ≤ n ∧ e.dep ≤ 6 ∧ ∀ H', Same H H' → Q (.int (f e)) H'
def spLB (K : PySem.W.Frag) (n : Nat) : Sp := fun vs H Q _ => ∃ (v : V) (e : Ex) (many : Nat), vs = [v] ∧ ExAt K H e v ∧ ExOk many e ∧ e.dep ≤ n ∧ e.dep ≤ 6 ∧ ∀ H' u, Same H H' → SpAt K H' (lvs e, bds e) u → Q u H'

/-! ### the law's own reading -/
def Ex.rest : Ex → List Itm
  | .fig c => [.i c]
  | .reg i => [.i (i : Int)]
  | .share j => [.i (j : Int)]
  | .two _ a b => [.k a, .k b]
  | .times f a => [.i f, .k a]
  | .by i a => [.i (i : Int), .k a]
  | .when i c a b => [.i (i : Int), .i c, .k a, .k b]
  | .whr j c a b => [.i (j : Int), .i c, .k a, .k b]
theorem kidsI_rest (e : Ex) : kidsI e.rest = e.kids := by cases e <;> rfl
theorem rest_len (e : Ex) : e.rest.length ≤ 4 := by cases e <;> simp [Ex.rest]
theorem ItsAt.imp {K : PySem.W.Frag} {H H' : Hp} (sm : Same H H') : ∀ {vs : List V} {ts : List Itm}, ItsAt K H vs ts → ItsAt K H' vs ts
  | [], [], _ => trivial
  | _ :: _, .s _ :: _, ⟨x, r⟩ => ⟨x, r.imp sm⟩
  | _ :: _, .i _ :: _, ⟨x, r⟩ => ⟨x, r.imp sm⟩
  | _ :: _, .k e :: _, ⟨x, r⟩ => ⟨ExAt.same (e := e) x sm, r.imp sm⟩
theorem ExAt.rst {K : PySem.W.Frag} {H : Hp} : ∀ {e : Ex} {v : V}, ExAt K H e v → ∃ p xs, v = .ref p ∧ SqT K H p (.str (wordOf e) :: xs) ∧ 0 < xs.length ∧ ItsAt K H xs e.rest
  | .fig _, _, ⟨p, e, q⟩ => ⟨p, _, e, q, by simp, rfl, trivial⟩
  | .reg _, _, ⟨p, e, q⟩ => ⟨p, _, e, q, by simp, rfl, trivial⟩
  | .share _, _, ⟨p, e, q⟩ => ⟨p, _, e, q, by simp, rfl, trivial⟩
  | .two _ _ _, _, ⟨p, x, y, e, q, a, b⟩ => ⟨p, _, e, q, by simp, a, b, trivial⟩
  | .times _ _, _, ⟨p, x, e, q, a⟩ => ⟨p, _, e, q, by simp, rfl, a, trivial⟩
  | .by _ _, _, ⟨p, x, e, q, a⟩ => ⟨p, _, e, q, by simp, rfl, a, trivial⟩
  | .when _ _ _ _, _, ⟨p, x, y, e, q, a, b⟩ => ⟨p, _, e, q, by simp, rfl, rfl, a, b, trivial⟩
  | .whr _ _ _ _, _, ⟨p, x, y, e, q, a, b⟩ => ⟨p, _, e, q, by simp, rfl, rfl, a, b, trivial⟩
theorem cut1 {x : V} {xs : List V} : cutV (x :: xs) (some 1) none = xs := by
  unfold cutV
  rw [show HT.sIx (x :: xs).length 0 (some 1) = min 1 (x :: xs).length from HT.sIx_nat _ 0 1, HT.sIx_none, List.length_cons, show min 1 (xs.length + 1) = 1 by omega]
  show List.take (xs.length + 1 - 1) xs = xs
  rw [Nat.add_sub_cancel, List.take_length]
theorem cut1w {x : V} {xs : List V} (h : 0 < xs.length) : ¬ (HT.sIx (x :: xs).length 0 (some 1) = 0 ∧ HT.sIx (x :: xs).length (x :: xs).length none = (x :: xs).length) := by
  rw [show HT.sIx (x :: xs).length 0 (some 1) = min 1 (x :: xs).length from HT.sIx_nat _ 0 1, List.length_cons]
  omega
theorem kidsI_snoc {ts : List Itm} {i : Nat} {t : Itm} (h : ts[i]? = some t) : kidsI (ts.take (i + 1)) = kidsI (ts.take i) ++ kidsI [t] := by
  rw [List.take_add_one, h, kidsI_append]
  rfl
theorem mem_kidsI {e : Ex} : ∀ {ts : List Itm}, Itm.k e ∈ ts → e ∈ kidsI ts
  | .k e' :: r, h => by
    rcases List.mem_cons.mp h with h | h
    · cases h
      exact List.mem_cons_self
    · exact List.mem_cons_of_mem _ (mem_kidsI h)
  | .s _ :: r, h => by
    rcases List.mem_cons.mp h with h | h
    · cases h
    · exact mem_kidsI (ts := r) h
  | .i _ :: r, h => by
    rcases List.mem_cons.mp h with h | h
    · cases h
    · exact mem_kidsI (ts := r) h
theorem sort2 {ns : List Int} {a b : Int} (hp : ns.Perm [a, b]) (hs : ns.Pairwise (· ≤ ·)) : ns = [mn a b, mx a b] := by
  have hl := hp.length_eq
  match ns, hl with
  | [x, y], _ =>
    have hxy : x ≤ y := by simpa using hs
    have h1 : x = a ∨ x = b := by simpa using hp.mem_iff (a := x)
    have h2 : y = a ∨ y = b := by simpa using hp.mem_iff (a := y)
    have h3 : a = x ∨ a = y := by simpa using (hp.mem_iff (a := a)).mpr (by simp)
    have h4 : b = x ∨ b = y := by simpa using (hp.mem_iff (a := b)).mpr (by simp)
    have e1 : x = mn a b := by unfold mn; split <;> omega
    have e2 : y = mx a b := by unfold mx; split <;> omega
    rw [e1, e2]
theorem far_eq {lo hi : Int} (h : lo ≤ hi) : (if (0 - lo) > hi then (0 - lo) else hi) = mx (ab lo) (ab hi) := by
  unfold mx ab
  repeat' split
  all_goals omega
end NG

namespace NG
open PySem PySem.Spec PyProof.Rows L2
/-! ### rows of expressions as data -/
theorem lay_ex : ∀ e : Ex, (toD e).canLay0 = true
  | .fig _ => by
    show (PyData.canLay0 (.str "fig") && (true && true)) = true
    decide +kernel
  | .reg _ => by
    show (PyData.canLay0 (.str "reg") && (true && true)) = true
    decide +kernel
  | .share _ => by
    show (PyData.canLay0 (.str "share") && (true && true)) = true
    decide +kernel
  | .two w a b => by
    have ha := lay_ex a
    have hb := lay_ex b
    show (PyData.canLay0 (.str (wn w)) && (PyData.canLay0 (toD a) && (PyData.canLay0 (toD b) && true))) = true
    rw [ha, hb]
    cases w <;> decide +kernel
  | .times _ a => by
    have ha := lay_ex a
    show (PyData.canLay0 (.str "times") && (true && (PyData.canLay0 (toD a) && true))) = true
    rw [ha]
    decide +kernel
  | .by _ a => by
    have ha := lay_ex a
    show (PyData.canLay0 (.str "by") && (true && (PyData.canLay0 (toD a) && true))) = true
    rw [ha]
    decide +kernel
  | .when _ _ a b => by
    have ha := lay_ex a
    have hb := lay_ex b
    show (PyData.canLay0 (.str "when") && (true && (true && (PyData.canLay0 (toD a) && (PyData.canLay0 (toD b) && true))))) = true
    rw [ha, hb]
    decide +kernel
  | .whr _ _ a b => by
    have ha := lay_ex a
    have hb := lay_ex b
    show (PyData.canLay0 (.str "where") && (true && (true && (PyData.canLay0 (toD a) && (PyData.canLay0 (toD b) && true))))) = true
    rw [ha, hb]
    decide +kernel
theorem depth_ex : ∀ e : Ex, (toD e).depth ≤ e.dep
  | .fig _ => Nat.le_refl _
  | .reg _ => Nat.le_refl _
  | .share _ => Nat.le_refl _
  | .two w a b => by
    have ha := depth_ex a
    have hb := depth_ex b
    show max 0 (max (toD a).depth (max (toD b).depth 0)) + 1 ≤ max a.dep b.dep + 1
    omega
  | .times _ a => by
    have ha := depth_ex a
    show max 0 (max 0 (max (toD a).depth 0)) + 1 ≤ a.dep + 1
    omega
  | .by _ a => by
    have ha := depth_ex a
    show max 0 (max 0 (max (toD a).depth 0)) + 1 ≤ a.dep + 1
    omega
  | .when _ _ a b => by
    have ha := depth_ex a
    have hb := depth_ex b
    show max 0 (max 0 (max 0 (max (toD a).depth (max (toD b).depth 0)))) + 1 ≤ max a.dep b.dep + 1
    omega
  | .whr _ _ a b => by
    have ha := depth_ex a
    have hb := depth_ex b
    show max 0 (max 0 (max 0 (max (toD a).depth (max (toD b).depth 0)))) + 1 ≤ max a.dep b.dep + 1
    omega
theorem shaped_rows {es : List Ex} (h : ∀ e ∈ es, e.dep ≤ 40) : SeqAt.shaped (.list (es.map toD)) = true := by
  have h1 : PyData.canLayAll0 (es.map toD) = true := by
    clear h
    induction es with
    | nil => rfl
    | cons e r ih =>
      show ((toD e).canLay0 && PyData.canLayAll0 (r.map toD)) = true
      rw [lay_ex e, ih]
      rfl
  have h2 : PyData.depthAll (es.map toD) ≤ 40 := by
    clear h1
    induction es with
    | nil => exact Nat.zero_le _
    | cons e r ih =>
      have a := depth_ex e
      have b := h e (by simp)
      have c := ih fun x hx => h x (List.mem_cons_of_mem _ hx)
      show max (toD e).depth (PyData.depthAll (r.map toD)) ≤ 40
      omega
  show (PyData.canLayAll0 (es.map toD) && decide (PyData.depthAll (es.map toD) + 1 ≤ 64)) = true
  rw [h1, decide_eq_true (by omega)]
  rfl
theorem RowsAt.dps {K : PySem.W.Frag} {H : Hp} : ∀ {vs : List V} {es : List Ex}, RowsAt K H vs es → DpAll K H vs (es.map toD)
  | [], [], _ => .nil
  | _ :: _, _ :: _, ⟨x, r⟩ => .cons x.dp r.dps
theorem RowsAt.append {K : PySem.W.Frag} {H : Hp} : ∀ {vs ws : List V} {es fs : List Ex}, RowsAt K H vs es → RowsAt K H ws fs → RowsAt K H (vs ++ ws) (es ++ fs)
  | [], _, [], _, _, r => r
  | _ :: _, _, _ :: _, _, ⟨x, q⟩, r => ⟨x, q.append r⟩
theorem RowsAt.mem {K : PySem.W.Frag} {H : Hp} : ∀ {vs : List V} {es : List Ex} {v : V}, RowsAt K H vs es → v ∈ vs → ∃ e ∈ es, ExAt K H e v
  | v' :: vs, e :: es, v, ⟨x, r⟩, h => by
    rcases List.mem_cons.mp h with h | h
    · subst h
      exact ⟨e, by simp, x⟩
    · obtain ⟨e', h1, h2⟩ := r.mem h
      exact ⟨e', List.mem_cons_of_mem _ h1, h2⟩
/-! ### slices of lists -/
theorem cut_take {xs : List V} {j : Nat} : cutV xs none (some (j : Int)) = xs.take j := by
  unfold cutV
  rw [HT.sIx_none, HT.sIx_nat, List.drop_zero, Nat.sub_zero]
  by_cases h : j ≤ xs.length
  · rw [Nat.min_eq_left h]
  · rw [Nat.min_eq_right (by omega), List.take_length, List.take_of_length_le (by omega)]
theorem cut_drop {xs : List V} {j : Nat} : cutV xs (some (j : Int)) none = xs.drop j := by
  unfold cutV
  rw [HT.sIx_none, HT.sIx_nat]
  by_cases h : j ≤ xs.length
  · rw [Nat.min_eq_left h, List.take_of_length_le (by rw [List.length_drop]; exact Nat.le_refl _)]
  · rw [Nat.min_eq_right (by omega), Nat.sub_self, List.take_zero, List.drop_of_length_le (by omega)]
/-! ### words within -/
def spWords (K : PySem.W.Frag) (n : Nat) : Sp := fun vs H Q _ => ∃ (v : V) (x : Str) (e : Ex) (many : Nat), vs = [v, .str x] ∧ ExAt K H e v ∧ ExOk many e ∧ e.dep ≤ n ∧ e.dep ≤ 6 ∧
  ∀ H' l us es, Same H H' → H l = none → H' l = some (.lst us) → RowsAt K H' us es → es.length ≤ 3 ^ n → (∀ e' ∈ es, ExOk many e' ∧ wordOf e' = x ∧ e'.dep ≤ e.dep) → Q (.ref l) H'
def spBorder (K : PySem.W.Frag) : Sp := fun vs H Q _ => ∃ (a : Addr) (v : V) (e : Ex) (many n : Nat), vs = [.ref a, v, .int (many : Int)] ∧ ExAt K H e v ∧ ExOk many e ∧ e.dep ≤ 5 ∧ 2 ≤ many ∧ many ≤ 3 ∧ HandAt H a n ∧ n ≤ 999997000 ∧
  ∀ H' u ms, But a H H' → HandAt H' a (n + 20) → ShAt K H' many ms u → Q u H'
def spNear (K : PySem.W.Frag) : Sp := fun vs H Q _ => ∃ (a : Addr) (v : V) (e : Ex) (many n : Nat), vs = [.ref a, v] ∧ ExAt K H e v ∧ ExOk many e ∧ e.dep ≤ 5 ∧ HandAt H a n ∧ n ≤ 999997000 ∧
  ∀ H' u rs, But a H H' → HandAt H' a (n + 15) → RegsAt K H' rs u → Q u H'
theorem is_whr {e : Ex} (h : wordOf e = "where") : ∃ j c a b, e = .whr j c a b := by
  cases e with
  | whr j c a b => exact ⟨j, c, a, b, rfl⟩
  | two w a b => cases w <;> exact absurd h (of_decide_eq_false rfl)
  | fig _ => exact absurd h (of_decide_eq_false rfl)
  | reg _ => exact absurd h (of_decide_eq_false rfl)
  | share _ => exact absurd h (of_decide_eq_false rfl)
  | times _ _ => exact absurd h (of_decide_eq_false rfl)
  | «by» _ _ => exact absurd h (of_decide_eq_false rfl)
  | when _ _ _ _ => exact absurd h (of_decide_eq_false rfl)
theorem is_when {e : Ex} (h : wordOf e = "when") : ∃ j c a b, e = .when j c a b := by
  cases e with
  | when j c a b => exact ⟨j, c, a, b, rfl⟩
  | two w a b => cases w <;> exact absurd h (of_decide_eq_false rfl)
  | fig _ => exact absurd h (of_decide_eq_false rfl)
  | reg _ => exact absurd h (of_decide_eq_false rfl)
  | share _ => exact absurd h (of_decide_eq_false rfl)
  | times _ _ => exact absurd h (of_decide_eq_false rfl)
  | «by» _ _ => exact absurd h (of_decide_eq_false rfl)
  | whr _ _ _ _ => exact absurd h (of_decide_eq_false rfl)
end NG

namespace NG
open PySem PySem.Spec PyProof.Rows L2
/-! ### tuples put together and cut, whatever they hold -/
theorem catA {K : PySem.W.Frag} {H : Hp} {a b : Addr} {xs ys : List V} {Q : VK} (ha : SqT K H a xs) (hb : SqT K H b ys) (hl : xs.length + ys.length ≤ sizeLine) (q : ∀ H' p, Same H H' → SqT K H' p (xs ++ ys) → Q (.ref p) H') : rCatA K (.ref a) (.ref b) H Q := by
  refine ⟨a, b, xs, ys, rfl, rfl, ha, hb, hl, fun h => ?_, fun _ h => ?_, fun _ _ p np => ?_⟩
  · subst h
    exact q H b (Same.refl _) hb
  · subst h
    exact q H a (Same.refl _) (by rw [List.append_nil]; exact ha)
  · exact q _ p (same_new np) (SqT.of upd_same)
theorem cutV_whole {xs : List V} {lo hi : Option Int} (h : HT.sIx xs.length 0 lo = 0 ∧ HT.sIx xs.length xs.length hi = xs.length) : cutV xs lo hi = xs := by
  unfold cutV
  rw [h.1, h.2, List.drop_zero, Nat.sub_zero, List.take_length]
theorem slA {K : PySem.W.Frag} {H : Hp} {a : Addr} {xs : List V} {lo hi : Option Int} {Q : VK} (ha : SqT K H a xs) (q : ∀ H' p, Same H H' → SqT K H' p (cutV xs lo hi) → Q (.ref p) H') : rSlA K (.ref a) lo hi H Q := by
  refine ⟨a, xs, rfl, ha, fun h => ?_, fun _ p np => ?_⟩
  · exact q H a (Same.refl _) (by rw [cutV_whole h]; exact ha)
  · exact q _ p (same_new np) (SqT.of upd_same)
theorem HandAt.same {H H' : Hp} {a : Addr} {n : Nat} (h : HandAt H a n) (s : Same H H') : HandAt H' a n := by
  obtain ⟨g, sd, m, e, z⟩ := h
  exact ⟨g, sd, m, s _ _ e, z⟩

/-! ### deeds -/
inductive D5 where
  | put | add | copy | plus | told
  deriving DecidableEq
def dn : D5 → Str
  | .put => "put"
  | .add => "add"
  | .copy => "copy"
  | .plus => "plus"
  | .told => "told"
inductive Ds where
  | nil
  | op (w : D5) (i : Nat) (x : Int) (r : Ds)
  | when (i : Nat) (c : Int) (a b r : Ds)
def DsAt (K : PySem.W.Frag) (H : Hp) : Ds → List V → Prop
  | .nil, vs => vs = []
  | .op w i x r, vs => ∃ p us, vs = .ref p :: us ∧ SqT K H p [.str (dn w), .int (i : Int), .int x] ∧ DsAt K H r us
  | .when i c a b r, vs => ∃ p pa pb xa xb us, vs = .ref p :: us ∧ SqT K H p [.str "when", .int (i : Int), .int c, .ref pa, .ref pb] ∧ SqT K H pa xa ∧ DsAt K H a xa ∧ SqT K H pb xb ∧ DsAt K H b xb ∧ DsAt K H r us
theorem DsAt.imp {K : PySem.W.Frag} {H H' : Hp} (h : ∀ p xs, SqT K H p xs → SqT K H' p xs) : ∀ {d : Ds} {vs : List V}, DsAt K H d vs → DsAt K H' d vs
  | .nil, _, e => e
  | .op _ _ _ _, _, ⟨p, us, e, q, r⟩ => ⟨p, us, e, h _ _ q, DsAt.imp h r⟩
  | .when _ _ _ _ _, _, ⟨p, pa, pb, xa, xb, us, e, q, qa, a, qb, b, r⟩ => ⟨p, pa, pb, xa, xb, us, e, h _ _ q, h _ _ qa, DsAt.imp h a, h _ _ qb, DsAt.imp h b, DsAt.imp h r⟩
theorem DsAt.same {K : PySem.W.Frag} {H H' : Hp} {d : Ds} {vs : List V} (x : DsAt K H d vs) (s : Same H H') : DsAt K H' d vs := x.imp fun _ _ q => same_sqt s q
def Ds.app : Ds → Ds → Ds
  | .nil, e => e
  | .op w i x r, e => .op w i x (r.app e)
  | .when i c a b r, e => .when i c a b (r.app e)
theorem DsAt.app {K : PySem.W.Frag} {H : Hp} : ∀ {d e : Ds} {vs ws : List V}, DsAt K H d vs → DsAt K H e ws → DsAt K H (d.app e) (vs ++ ws)
  | .nil, _, _, _, e, y => by
    subst e
    exact y
  | .op _ _ _ _, _, _, _, ⟨p, us, e, q, r⟩, y => by
    subst e
    exact ⟨p, _, rfl, q, DsAt.app r y⟩
  | .when _ _ _ _ _, _, _, _, ⟨p, pa, pb, xa, xb, us, e, q, qa, a, qb, b, r⟩, y => by
    subst e
    exact ⟨p, pa, pb, xa, xb, _, rfl, q, qa, a, qb, b, DsAt.app r y⟩
def Ds.cnt : Ds → Nat
  | .nil => 0
  | .op _ _ _ r => 1 + r.cnt
  | .when _ _ a b r => 1 + (a.cnt + b.cnt) + r.cnt
def Ds.len : Ds → Nat
  | .nil => 0
  | .op _ _ _ r => r.len + 1
  | .when _ _ _ _ r => r.len + 1
def Ds.dep : Ds → Nat
  | .nil => 0
  | .op _ _ _ r => max 1 r.dep
  | .when _ _ a b r => max (max a.dep b.dep + 1) r.dep
theorem Ds.len_le : ∀ d : Ds, d.len ≤ d.cnt
  | .nil => Nat.le_refl _
  | .op _ _ _ r => by have := r.len_le; show r.len + 1 ≤ 1 + r.cnt; omega
  | .when _ _ a b r => by have := r.len_le; show r.len + 1 ≤ 1 + (a.cnt + b.cnt) + r.cnt; omega
theorem DsAt.len {K : PySem.W.Frag} {H : Hp} : ∀ {d : Ds} {vs : List V}, DsAt K H d vs → vs.length = d.len
  | .nil, _, e => by subst e; rfl
  | .op _ _ _ _, _, ⟨p, us, e, q, r⟩ => by subst e; rw [List.length_cons, r.len]; rfl
  | .when _ _ _ _ _, _, ⟨p, pa, pb, xa, xb, us, e, q, qa, a, qb, b, r⟩ => by subst e; rw [List.length_cons, r.len]; rfl
theorem Ds.cnt_app : ∀ d e : Ds, (d.app e).cnt = d.cnt + e.cnt
  | .nil, e => by show e.cnt = 0 + e.cnt; omega
  | .op _ _ _ r, e => by show 1 + (r.app e).cnt = 1 + r.cnt + e.cnt; rw [Ds.cnt_app r e]; omega
  | .when _ _ a b r, e => by show 1 + (a.cnt + b.cnt) + (r.app e).cnt = 1 + (a.cnt + b.cnt) + r.cnt + e.cnt; rw [Ds.cnt_app r e]; omega
theorem Ds.dep_app : ∀ d e : Ds, (d.app e).dep = max d.dep e.dep
  | .nil, e => by show e.dep = max 0 e.dep; omega
  | .op _ _ _ r, e => by show max 1 (r.app e).dep = max (max 1 r.dep) e.dep; rw [Ds.dep_app r e]; omega
  | .when _ _ a b r, e => by show max (max a.dep b.dep + 1) (r.app e).dep = max (max (max a.dep b.dep + 1) r.dep) e.dep; rw [Ds.dep_app r e]; omega
def xok (many : Nat) : D5 → Int → Prop
  | .put, x => -1000 ≤ x ∧ x ≤ 1000
  | .add, x => -1000 ≤ x ∧ x ≤ 1000
  | .copy, x => 0 ≤ x ∧ x < 4
  | .plus, x => 0 ≤ x ∧ x < 4
  | .told, x => 0 ≤ x ∧ x < many
theorem xok_small {many : Nat} (hm : many ≤ 1000) : ∀ {w : D5} {x : Int}, xok many w x → -1000 ≤ x ∧ x ≤ 1000
  | .put, _, h => h
  | .add, _, h => h
  | .copy, _, h => by have := h.1; have := h.2; constructor <;> omega
  | .plus, _, h => by have := h.1; have := h.2; constructor <;> omega
  | .told, _, h => by have := h.1; have := h.2; constructor <;> omega
def DsOk (many : Nat) : Ds → Prop
  | .nil => True
  | .op w i x r => i < 4 ∧ xok many w x ∧ DsOk many r
  | .when i c a b r => i < 4 ∧ (-1000 ≤ c ∧ c ≤ 1000) ∧ DsOk many a ∧ DsOk many b ∧ DsOk many r
theorem DsOk.app {many : Nat} : ∀ {d e : Ds}, DsOk many d → DsOk many e → DsOk many (d.app e)
  | .nil, _, _, y => y
  | .op _ _ _ _, _, ⟨h1, h2, h3⟩, y => ⟨h1, h2, DsOk.app h3 y⟩
  | .when _ _ _ _ _, _, ⟨h1, h2, h3, h4, h5⟩, y => ⟨h1, h2, h3, h4, DsOk.app h5 y⟩
def cl (n : Int) : Int := mx (-1000) (mn 1000 n)
theorem cl_in (n : Int) : -1000 ≤ cl n ∧ cl n ≤ 1000 := by
  unfold cl mx mn
  repeat' split
  all_goals omega
def hb (ss : List Int) : D5 → Nat → Int → List Int → Int
  | .put, _, x, _ => x
  | .add, i, x, rs => rs.getD i 0 + x
  | .copy, _, x, rs => rs.getD x.toNat 0
  | .plus, i, x, rs => rs.getD i 0 + rs.getD x.toNat 0
  | .told, _, x, _ => 1000 * ss.getD x.toNat 0 / ss.sum
def ap (ss : List Int) : Ds → List Int → List Int
  | .nil, rs => rs
  | .op w i x r, rs => ap ss r (rs.set i (cl (hb ss w i x rs)))
  | .when i c a b r, rs => ap ss r (if rs.getD i 0 < c then ap ss a rs else ap ss b rs)
def RegOk (rs : List Int) : Prop := rs.length = 4 ∧ ∀ x ∈ rs, -1000 ≤ x ∧ x ≤ 1000
theorem RegOk.set {rs : List Int} (h : RegOk rs) (i : Nat) (n : Int) : RegOk (rs.set i (cl n)) := by
  refine ⟨by rw [List.length_set]; exact h.1, fun x hx => ?_⟩
  rcases List.mem_or_eq_of_mem_set hx with hx | rfl
  · exact h.2 x hx
  · exact cl_in n
theorem RegOk.ap {ss : List Int} : ∀ {d : Ds} {rs : List Int}, RegOk rs → RegOk (ap ss d rs)
  | .nil, _, h => h
  | .op w i x r, rs, h => RegOk.ap (d := r) (h.set i _)
  | .when i c a b r, rs, h => by
    show RegOk (NG.ap ss r (if rs.getD i 0 < c then NG.ap ss a rs else NG.ap ss b rs))
    refine RegOk.ap (d := r) ?_
    split
    · exact RegOk.ap (d := a) h
    · exact RegOk.ap (d := b) h
theorem RegsAt.ok {K : PySem.W.Frag} {H : Hp} {rs : List Int} {v : V} (h : RegsAt K H rs v) : RegOk rs := by
  obtain ⟨p, _, _, l, b⟩ := h
  exact ⟨l, b⟩
theorem RegsAt.same {K : PySem.W.Frag} {H H' : Hp} {rs : List Int} {v : V} (h : RegsAt K H rs v) (s : Same H H') : RegsAt K H' rs v := h.imp fun _ _ q => same_sqt s q
theorem ShAt.same {K : PySem.W.Frag} {H H' : Hp} {many : Nat} {rs : List Int} {v : V} (h : ShAt K H many rs v) (s : Same H H') : ShAt K H' many rs v := h.imp fun _ _ q => same_sqt s q
/-! ### rows of deeds, doubters -/
def BhAt (K : PySem.W.Frag) (H : Hp) : List V → List Ds → Prop
  | [], [] => True
  | v :: vs, d :: ds => (∃ p xs, v = .ref p ∧ SqT K H p xs ∧ DsAt K H d xs) ∧ BhAt K H vs ds
  | _, _ => False
theorem BhAt.imp {K : PySem.W.Frag} {H H' : Hp} (h : ∀ p xs, SqT K H p xs → SqT K H' p xs) : ∀ {vs : List V} {es : List Ds}, BhAt K H vs es → BhAt K H' vs es
  | [], [], _ => trivial
  | _ :: _, _ :: _, ⟨⟨p, xs, e, q, x⟩, r⟩ => ⟨⟨p, xs, e, h _ _ q, x.imp h⟩, BhAt.imp h r⟩
theorem BhAt.same {K : PySem.W.Frag} {H H' : Hp} {vs : List V} {es : List Ds} (r : BhAt K H vs es) (s : Same H H') : BhAt K H' vs es := r.imp fun _ _ q => same_sqt s q
theorem BhAt.len {K : PySem.W.Frag} {H : Hp} : ∀ {vs : List V} {es : List Ds}, BhAt K H vs es → vs.length = es.length
  | [], [], _ => rfl
  | _ :: _, _ :: _, ⟨_, r⟩ => by rw [List.length_cons, List.length_cons, r.len]
theorem BhAt.snoc {K : PySem.W.Frag} {H : Hp} {p : Addr} {xs : List V} {d : Ds} (q : SqT K H p xs) (x : DsAt K H d xs) : ∀ {vs : List V} {es : List Ds}, BhAt K H vs es → BhAt K H (vs ++ [.ref p]) (es ++ [d])
  | [], [], _ => ⟨⟨p, xs, rfl, q, x⟩, trivial⟩
  | _ :: _, _ :: _, ⟨y, r⟩ => ⟨y, BhAt.snoc q x r⟩
theorem BhAt.get {K : PySem.W.Frag} {H : Hp} : ∀ {vs : List V} {es : List Ds} {k : Nat} {d : Ds}, BhAt K H vs es → es[k]? = some d → ∃ p xs, vs[k]? = some (.ref p) ∧ SqT K H p xs ∧ DsAt K H d xs
  | [], [], _, _, _, h => by simp at h
  | v :: vs, e' :: es, 0, e, ⟨⟨p, xs, e1, q, x⟩, r⟩, h => by
    have : e' = e := Option.some.inj h
    subst this
    exact ⟨p, xs, by rw [e1]; rfl, q, x⟩
  | v :: vs, e' :: es, k + 1, e, ⟨x, r⟩, h => BhAt.get (k := k) r h
structure Dbt where
  name : Str
  scale : Nat
  begins : List Int
  stakes : List Ex
  behinds : List Ds
def DbAt (K : PySem.W.Frag) (H : Hp) (D : Dbt) (v : V) : Prop := ∃ (p : Addr) (vb : V) (ps pb : Addr) (us ws : List V), v = .ref p ∧ SqT K H p [.str D.name, .int (D.scale : Int), vb, .ref ps, .ref pb] ∧ RegsAt K H D.begins vb ∧ SqT K H ps us ∧ RowsAt K H us D.stakes ∧ SqT K H pb ws ∧ BhAt K H ws D.behinds
theorem DbAt.imp {K : PySem.W.Frag} {H H' : Hp} {D : Dbt} {v : V} (x : DbAt K H D v) (h : ∀ p xs, SqT K H p xs → SqT K H' p xs) : DbAt K H' D v := by
  obtain ⟨p, vb, ps, pb, us, ws, e, q, r, q1, r1, q2, r2⟩ := x
  exact ⟨p, vb, ps, pb, us, ws, e, h _ _ q, r.imp h, h _ _ q1, r1.imp h, h _ _ q2, r2.imp h⟩
theorem DbAt.same {K : PySem.W.Frag} {H H' : Hp} {D : Dbt} {v : V} (x : DbAt K H D v) (s : Same H H') : DbAt K H' D v := x.imp fun _ _ q => same_sqt s q
/-- names, scale, registers, stakes of a depth, deeds of a depth and a number -/
structure DbOk (many dE dD cD : Nat) (D : Dbt) : Prop where
  nm : D.name = "a" ∨ D.name = "doubter" ∨ D.name = "sceptics" ∨ D.name = "zz"
  sc : D.scale < 5
  rg : RegOk D.begins
  sl : D.stakes.length = many
  st : ∀ e ∈ D.stakes, ExOk many e ∧ e.dep ≤ dE
  bl : D.behinds.length = many
  bh : ∀ d ∈ D.behinds, DsOk many d ∧ d.dep ≤ dD ∧ d.cnt ≤ cD
/-! ### as data -/
def dsD : Ds → List PyData
  | .nil => []
  | .op w i x r => .tuple [.str (dn w), .int (i : Int), .int x] :: dsD r
  | .when i c a b r => .tuple [.str "when", .int (i : Int), .int c, .tuple (dsD a), .tuple (dsD b)] :: dsD r
theorem DsAt.dps {K : PySem.W.Frag} {H : Hp} : ∀ {d : Ds} {vs : List V}, DsAt K H d vs → DpAll K H vs (dsD d)
  | .nil, _, e => by subst e; exact .nil
  | .op _ _ _ _, _, ⟨p, us, e, q, r⟩ => by subst e; exact .cons (.tup q (.cons (.str _) (.cons (.int _) (.cons (.int _) .nil)))) r.dps
  | .when _ _ _ _ _, _, ⟨p, pa, pb, xa, xb, us, e, q, qa, a, qb, b, r⟩ => by subst e; exact .cons (.tup q (.cons (.str _) (.cons (.int _) (.cons (.int _) (.cons (.tup qa a.dps) (.cons (.tup qb b.dps) .nil)))))) r.dps
theorem BhAt.dps {K : PySem.W.Frag} {H : Hp} : ∀ {vs : List V} {es : List Ds}, BhAt K H vs es → DpAll K H vs (es.map fun d => .tuple (dsD d))
  | [], [], _ => .nil
  | _ :: _, _ :: _, ⟨⟨p, xs, e, q, x⟩, r⟩ => by subst e; exact .cons (.tup q x.dps) r.dps
def dbD (D : Dbt) : PyData := .tuple [.str D.name, .int (D.scale : Int), .tuple (D.begins.map PyData.int), .tuple (D.stakes.map toD), .tuple (D.behinds.map fun d => .tuple (dsD d))]
theorem dp_ints {K : PySem.W.Frag} {H : Hp} : ∀ ns : List Int, DpAll K H (ns.map V.int) (ns.map PyData.int)
  | [] => .nil
  | n :: r => .cons (.int n) (dp_ints r)
theorem DbAt.dp {K : PySem.W.Frag} {H : Hp} {D : Dbt} {v : V} (x : DbAt K H D v) : Dp K H v (dbD D) := by
  obtain ⟨p, vb, ps, pb, us, ws, e, q, ⟨pr, e2, r, _⟩, q1, r1, q2, r2⟩ := x
  subst e e2
  exact .tup q (.cons (.str _) (.cons (.int _) (.cons (.tup r (dp_ints _)) (.cons (.tup q1 r1.dps) (.cons (.tup q2 r2.dps) .nil)))))
theorem shw_smalls : ∀ {ns : List Int}, (∀ x ∈ ns, -1000 ≤ x ∧ x ≤ 1000) → ShwAll (ns.map PyData.int) (16 * ns.length) 0
  | [], _ => ShwAll.nil
  | n :: r, h => by
    have h0 := h n (by simp)
    have h1 := Shw.small (i := n) (by omega)
    have h2 := shw_smalls (ns := r) fun x hx => h x (List.mem_cons_of_mem _ hx)
    have h3 := ShwAll.cons h1 h2 (Nat.le_refl 0) (Nat.le_refl 0)
    refine ⟨h3.sh, h3.lf, Nat.le_trans h3.wt ?_, h3.dp⟩
    rw [List.length_cons]
    omega
theorem shw_ds {many : Nat} (hm : many ≤ 1000) : ∀ {d : Ds}, DsOk many d → ShwAll (dsD d) (60 * d.cnt) (2 * d.dep)
  | .nil, _ => ShwAll.nil
  | .op w i x r, ⟨o1, o2, o3⟩ => by
    have hr := shw_ds hm (d := r) o3
    have hx := xok_small hm o2
    have hw : Shw (.str (dn w)) 10 0 := by cases w <;> exact .str (by decide) (by decide)
    have h1 := ShwAll.tup (.cons hw (.cons (.small (i := (i : Int)) (by omega)) (.cons (.small (i := x) (by omega)) .nil (Nat.le_refl 0) (Nat.le_refl 0)) (Nat.le_refl 0) (Nat.le_refl 0)) (Nat.le_refl 0) (Nat.le_refl 0))
    have h2 := ShwAll.cons h1 hr (k := 2 * max 1 r.dep) (by omega) (by omega)
    refine ⟨h2.sh, h2.lf, Nat.le_trans h2.wt ?_, h2.dp⟩
    show 10 + 1 + (15 + 1 + (15 + 1 + 0)) + 1 + 60 * r.cnt ≤ 60 * (1 + r.cnt)
    omega
  | .when i c a b r, ⟨o1, o2, o3, o4, o5⟩ => by
    have ha := (shw_ds hm (d := a) o3).tup
    have hb := (shw_ds hm (d := b) o4).tup
    have hr := shw_ds hm (d := r) o5
    have h1 := ShwAll.tup (.cons (.str (x := "when") (by decide) (by decide)) (.cons (.small (i := (i : Int)) (by omega)) (.cons (.small (i := c) (by omega)) (.cons ha (.cons hb .nil (k := 2 * max a.dep b.dep + 1) (by omega) (Nat.zero_le _)) (by omega) (Nat.le_refl _)) (Nat.zero_le _) (Nat.le_refl _)) (Nat.zero_le _) (Nat.le_refl _)) (Nat.zero_le _) (Nat.le_refl _))
    have h2 := ShwAll.cons h1 hr (k := 2 * max (max a.dep b.dep + 1) r.dep) (by omega) (by omega)
    refine ⟨h2.sh, h2.lf, Nat.le_trans h2.wt ?_, h2.dp⟩
    show 10 + 1 + (15 + 1 + (15 + 1 + (60 * a.cnt + 1 + (60 * b.cnt + 1 + 0)))) + 1 + 60 * r.cnt ≤ 60 * (1 + (a.cnt + b.cnt) + r.cnt)
    omega
theorem shw_list {α : Type} {f : α → PyData} {w k : Nat} : ∀ {xs : List α}, (∀ x ∈ xs, Shw (f x) w k) → ShwAll (xs.map f) ((w + 1) * xs.length) k
  | [], _ => ShwAll.nil
  | n :: r, h => by
    have h1 := h n (by simp)
    have h2 := shw_list (xs := r) fun x hx => h x (List.mem_cons_of_mem _ hx)
    have h3 := ShwAll.cons h1 h2 (Nat.le_refl k) (Nat.le_refl k)
    refine ⟨h3.sh, h3.lf, Nat.le_trans h3.wt ?_, h3.dp⟩
    rw [List.length_cons, Nat.mul_add]
    omega
/-- a doubter's weight -/
theorem shw_db {many dE dD cD : Nat} {D : Dbt} (hm : many ≤ 3) (hE : dE ≤ 8) (hD : dD ≤ 8) (o : DbOk many dE dD cD D) : Shw (dbD D) (120 + 3 * wgt dE + 180 * cD) 20 := by
  have h0 : Shw (.str D.name) 10 0 := by rcases o.nm with e | e | e | e <;> rw [e] <;> exact .str (by decide) (by decide)
  have h1 : Shw (.int (D.scale : Int)) 15 0 := .small (by have := o.sc; omega)
  have h2 := (shw_smalls o.rg.2).tup
  have h3 := (shw_list (f := toD) (w := wgt dE) (k := dE) fun e he => (shw_ex (many := many) (by omega) (o.st e he).1).mono (wgt_mono (o.st e he).2) (o.st e he).2).tup
  have h4 := (shw_list (f := fun d => PyData.tuple (dsD d)) (w := 60 * cD) (k := 2 * dD + 1) fun d hd => ((shw_ds (many := many) (by omega) (o.bh d hd).1).tup).mono (Nat.mul_le_mul_left _ (o.bh d hd).2.2) (by have := (o.bh d hd).2.1; omega)).tup
  have h5 := ShwAll.tup (.cons h0 (.cons h1 (.cons h2 (.cons h3 (.cons h4 (ShwAll.nil (k := 0)) (k := 18) (by omega) (by omega)) (by omega) (Nat.le_refl 18)) (by omega) (Nat.le_refl 18)) (by omega) (Nat.le_refl 18)) (by omega) (Nat.le_refl 18))
  refine h5.mono ?_ (by decide)
  rw [o.sl, o.bl, o.rg.1]
  have a1 : (wgt dE + 1) * many ≤ (wgt dE + 1) * 3 := Nat.mul_le_mul_left _ hm
  have a2 : (60 * cD + 1) * many ≤ (60 * cD + 1) * 3 := Nat.mul_le_mul_left _ hm
  omega
/-! ### promises -/
def spExprJ (K : PySem.W.Frag) (m : Nat) : Sp := fun vs H Q _ => ∃ (a : Addr) (many l n j : Nat), vs = [.ref a, .int (many : Int), .int (l : Int), .int (j : Int)] ∧ j ≤ 1 ∧ l < m ∧ 1 ≤ many ∧ many ≤ 1000 ∧ HandAt H a n ∧ n + cost l ≤ 999999000 ∧
  ∀ H' v e, But a H H' → HandAt H' a (n + cost l) → ExAt K H' e v → ExOk many e → e.dep ≤ l + 1 → Q v H'
/-- a stake: cut to its far -/
def spStake (K : PySem.W.Frag) (m : Nat) : Sp := fun vs H Q _ => ∃ (a : Addr) (many l n j : Nat), vs = [.ref a, .int (many : Int), .int (l : Int), .int (j : Int)] ∧ j ≤ 1 ∧ l < m ∧ 1 ≤ many ∧ many ≤ 1000 ∧ HandAt H a n ∧ n + cost l ≤ 999998000 ∧
  ∀ H' v e, But a H H' → HandAt H' a (n + cost l + 3) → ExAt K H' e v → ExOk many e → e.dep ≤ l + 3 → (∃ c : Int, e = .fig c ∧ -500 ≤ c ∧ c ≤ 500) ∨ (∃ (c : Int) (e' : Ex), e = .two .least (.fig c) (.two .most (.fig (-c)) e') ∧ 1 ≤ c ∧ c ≤ 500 ∧ ExOk many e' ∧ e'.dep ≤ l + 1) → Q v H'
def dB : Nat → Nat
  | 0 => 20
  | n + 1 => 2 * dB n + 30
def dC : Nat → Nat
  | 0 => 3
  | n + 1 => 2 * dC n + 4
theorem dC_ge (n : Nat) : 3 ≤ dC n := by
  cases n with
  | zero => exact Nat.le_refl _
  | succ n => show 3 ≤ 2 * dC n + 4; omega
theorem dB_ge (n : Nat) : 20 ≤ dB n := by
  cases n with
  | zero => exact Nat.le_refl _
  | succ n => show 20 ≤ 2 * dB n + 30; omega
def spDeeds (K : PySem.W.Frag) (m : Nat) : Sp := fun vs H Q _ => ∃ (a : Addr) (many l n : Nat), vs = [.ref a, .int (many : Int), .int (l : Int)] ∧ l < m ∧ l ≤ 3 ∧ 1 ≤ many ∧ many ≤ 1000 ∧ HandAt H a n ∧ n + dB l ≤ 999998000 ∧
  ∀ H' p xs d, But a H H' → HandAt H' a (n + dB l) → SqT K H' p xs → DsAt K H' d xs → DsOk many d → d.dep ≤ l + 1 → d.cnt ≤ dC l → Q (.ref p) H'
def StOk (many l : Nat) (e : Ex) : Prop := (∃ c : Int, e = .fig c ∧ -500 ≤ c ∧ c ≤ 500) ∨ (∃ (c : Int) (e' : Ex), e = .two .least (.fig c) (.two .most (.fig (-c)) e') ∧ 1 ≤ c ∧ c ≤ 500 ∧ ExOk many e' ∧ e'.dep ≤ l + 1)
def spDoubter (K : PySem.W.Frag) (m : Nat) : Sp := fun vs H Q _ => ∃ (a : Addr) (many l n j : Nat), vs = [.ref a, .int (many : Int), .int (l : Int), .int (j : Int)] ∧ j ≤ 1 ∧ l < m ∧ l ≤ 5 ∧ 1 ≤ many ∧ many ≤ 3 ∧ HandAt H a n ∧ n ≤ 999990000 ∧
  ∀ H' v D, But a H H' → HandAt H' a (n + 3 * cost l + 300) → DbAt K H' D v → DbOk many (l + 3) 2 10 D → (∀ e ∈ D.stakes, StOk many l e) → Q v H'
end NG

namespace NG
open PySem PySem.Spec PyProof.Rows L2
/-! ### zip of a list with a tuple -/
def ItLT (K : PySem.W.Frag) (a b : Addr) : It :=
  ⟨fun i H => ∃ (us ws : List V) (u v : V), SqL K H a us ∧ SqT K H b ws ∧ us[i]? = some u ∧ ws[i]? = some v,
   fun i H r H' => ∃ (T : Addr) (u v : V), r = .ref T ∧ H T = none ∧ H' = upd H T (.tup [u, v]) ∧ (∀ us, SqL K H a us → us[i]? = some u) ∧ ∀ ws, SqT K H b ws → ws[i]? = some v,
   fun i H => ∃ us ws : List V, SqL K H a us ∧ SqT K H b ws ∧ us.length = i ∧ ws.length = i⟩
theorem turn_LT {P : Program} {w : World} {K : PySem.W.Frag} {es : List Expr} {k : Nat} {ps : Pos} {a b z TI TO i1 i2 : Addr} (S : ZipSep2 z TI TO i1 i2 [i1, a] [i2, b]) (na : a ≠ i1) (nb : b ≠ i2) :
    Turn P w K (.Tuple es k ps) (ItLT K a b) [z, TI, TO, i1, i2] z (fun i h => IsZip h z TI TO .none ∧ IsTupOf2 h TI (.ref i1) (.ref i2) ∧ (∃ c d, IsTupOf2 h TO c d) ∧ h.IsListIter i1 a i ∧ h.IsTupleIter i2 b i) := by
  have five : ∀ {c : Addr}, c ∈ [z, TI, TO, i1, i2] → c = z ∨ c = TI ∨ c = TO ∨ c = i1 ∨ c = i2 := fun h => by simpa using h
  have lives : ∀ (i : Nat) (h : Heap), (IsZip h z TI TO .none ∧ IsTupOf2 h TI (.ref i1) (.ref i2) ∧ (∃ c d, IsTupOf2 h TO c d) ∧ h.IsListIter i1 a i ∧ h.IsTupleIter i2 b i) → ∀ c ∈ [z, TI, TO, i1, i2], ∃ o, h.get? c = some o ∧ ∀ v, o.data ≠ .cell v := fun i h st c hc => by
    obtain ⟨s1, s2, ⟨x, y, s3⟩, ⟨o4, s4, _, d4⟩, ⟨o5, s5, _, d5⟩⟩ := st
    rcases five hc with rfl | rfl | rfl | rfl | rfl
    · exact ⟨_, s1, fun v q => nomatch q⟩
    · exact ⟨_, s2, fun v q => nomatch q⟩
    · exact ⟨_, s3, fun v q => nomatch q⟩
    · exact ⟨o4, s4, fun v q => by rw [d4] at q; exact nomatch q⟩
    · exact ⟨o5, s5, fun v q => by rw [d5] at q; exact nomatch q⟩
  refine ⟨List.mem_cons_self, lives, fun i h h' st kp => ?_, fun X eP ew eK hc i pins s σ H E I hf st hg => ?_, fun X eP ew eK hc i pins s σ H E I hf st hg => ?_, fun A i s Q E st q => wpAny_pyIter_zip st.1 q⟩
  · obtain ⟨s1, s2, ⟨x, y, s3⟩, s4, s5⟩ := st
    exact ⟨kp _ (by simp) _ s1, kp _ (by simp) _ s2, ⟨x, y, kp _ (by simp) _ s3⟩, s4.at fun o q => kp _ (by simp) o q, s5.at fun o q => kp _ (by simp) o q⟩
  · cases eP
    cases ew
    cases eK
    have lv := lives i _ st
    obtain ⟨s1, s2, s3, s4, s5⟩ := st
    obtain ⟨us, ws, u, v, qa, qb, hu, hv⟩ := hg
    obtain ⟨la, ra, pa, _⟩ := I.list qa
    obtain ⟨lb, rb, pb, _⟩ := I.tuple qb
    obtain ⟨u', eu, ru⟩ := ra.get hu
    obtain ⟨v', ev', rv⟩ := rb.get hv
    have W := WalksT.zipD2 (A := X.A) S (Draws.list (prog := X.prog) (w := X.w) (A := X.A.in1) (I.ok.hd hc) i1 a na la.toArray) (Draws.tuple (A := X.A.in1) (I.ok.hd hc) i2 b nb lb.toArray)
    have il : i < la.length := (List.getElem?_eq_some_iff.mp eu).1
    have ir : i < lb.length := (List.getElem?_eq_some_iff.mp ev').1
    refine W.item i s _ E (by rw [List.size_toArray, List.size_toArray]; omega) ⟨s1, s2, s3, ⟨s4, pa.isList⟩, ⟨s5, pb⟩⟩ fun T vals h1 tk pv hT tT mid k1 => ⟨_, rfl, ?_⟩
    have apT := W.apart i T h1 mid
    refine W.go es k ps i T _ _ _ mid fun h2 st2 k2 => ?_
    obtain ⟨x1, x2, e1, e2, rfl⟩ := pv
    have f1 : x1 = u' := by
      have := e1.symm.trans (show la.toArray[i]? = some u' by simpa using eu)
      exact Option.some.inj this
    have f2 : x2 = v' := by
      have := e2.symm.trans (show lb.toArray[i]? = some v' by simpa using ev')
      exact Option.some.inj this
    subst f1 f2
    obtain ⟨z1, z2, z3, ⟨z4, _⟩, ⟨z5, _⟩⟩ := st2
    have tT2 : h2.IsTuple T #[x1, x2] := tT.at fun o e => k2 T o apT e
    have in5 : ∀ c, c ∉ [z, TI, TO, i1, i2] → c ∉ [z, TO, i1, i2] := fun c h m => h (by
      rcases (by simpa using m : c = z ∨ c = TO ∨ c = i1 ∨ c = i2) with rfl | rfl | rfl | rfl <;> simp)
    have J := I.turnedNew (h' := h2) (t' := tk) (ch := [z, TI, TO, i1, i2]) (T := T) (ob := .tup [u, v]) (fun c o hb' q => k2 c o (in5 c hb') (k1 c o (in5 c hb') q)) hf hT ⟨(by show 2 ≤ sizeLine; decide), [x1, x2], .cons ru (.cons rv .nil), tT2⟩
    refine ⟨.ref T, _, J, rfl, ⟨T, u, v, rfl, I.hok.fresh hT, rfl, fun l hl => ?_, fun l hl => ?_⟩, ⟨z1, z2, z3, z4, z5⟩, fun c hcm => ?_⟩
    · rw [I.list_inj hl qa]
      exact hu
    · rw [I.tuple_inj hl qb]
      exact hv
    · obtain ⟨o, ho, _⟩ := lv c hcm
      have lt := Heap.lt_size ho
      rw [upd_ne (Nat.ne_of_lt (Nat.lt_of_lt_of_le lt hT))]
      exact (hf c hcm).1
  · cases eP
    cases ew
    cases eK
    obtain ⟨s1, s2, s3, s4, s5⟩ := st
    obtain ⟨us, ws, qa, qb, e1, e2⟩ := hg
    obtain ⟨la, ra, pa, _⟩ := I.list qa
    obtain ⟨lb, rb, pb, _⟩ := I.tuple qb
    have W := WalksT.zipD2 (A := X.A) S (Draws.list (prog := X.prog) (w := X.w) (A := X.A.in1) (I.ok.hd hc) i1 a na la.toArray) (Draws.tuple (A := X.A.in1) (I.ok.hd hc) i2 b nb lb.toArray)
    have l1 := ra.length
    have l2 := rb.length
    have en : min la.toArray.size lb.toArray.size = i := by
      rw [List.size_toArray, List.size_toArray]
      omega
    rw [en] at W
    refine W.done s _ E ⟨s1, s2, s3, ⟨s4, pa.isList⟩, ⟨s5, pb⟩⟩ fun h1 tk k1 => ⟨rfl, ?_⟩
    exact I.turnedL (t' := tk) (ch := [z, TI, TO, i1, i2]) (fun c o hb' q => k1 c o (fun m => hb' (by rcases (by simpa using m : c = z ∨ c = TO ∨ c = i1 ∨ c = i2) with rfl | rfl | rfl | rfl <;> simp)) q) hf
def iZipLT (K : PySem.W.Frag) (ta : TA) : TI := fun σ H R => ta σ H fun vs H1 => ∃ a b us ws, vs = [.ref a, .ref b] ∧ SqL K H1 a us ∧ SqT K H1 b ws ∧ R (ItLT K a b) H1
theorem pi_zipLT {X : Cx} {e e2 : Expr} {ta : TA} {p pos tpos : Pos} {elts : List Expr} {kk : Nat} (hg : Gl X "zip") (hm : X.mg "zip" = none) (ha : PA X [e, e2] ta)
    (hs : starEach [e, e2] X.env = (false, eval e X.env) :: starEach [e2] X.env := by rfl) (hpl : (backTo pos (starEach [e2] X.env)).any (·.1) = false := by rfl) : PI X (.Tuple elts kk tpos) (.Call (.Name "zip" p) [e, e2] [] pos) (iZipLT X.K ta) := by
  refine ⟨fun pins s σ H R I h => Call_ (ld_blt I hg hm PyProof.Rows.boot_zip (PyProof.Rows.callWith_type1 (thn (ha.run pos pins s σ H _ I h) fun us s1 ⟨vs, H1, I1, r1, q1⟩ => ?_) hs hpl))⟩
  obtain ⟨a, b, ul, wl, rfl, qa, qb, q⟩ := q1
  obtain ⟨v1, v2, rfl, t1, t2⟩ := vals2 r1
  cases t1
  cases t2
  obtain ⟨la, ra, pa, _⟩ := I1.list qa
  obtain ⟨lb, rb, pb, _⟩ := I1.tuple qb
  obtain ⟨ob, hob, _⟩ := id pb
  have lt1 : a < s1.heap.objs.size := pa.lt
  have lt2 : b < s1.heap.objs.size := Heap.lt_size hob
  refine zip_begins2 (begins_list a la.toArray) (begins_tuple b lb.toArray) pa.isList pb fun h' hz hTI hTO g1 g2 hsz hk => wpAny_pyIter_zip hz ?_
  have J : Inv X pins σ H1 { s1 with heap := h' } := I1.kept (t' := s1.toks) hk
  have S := zip_sep2 (N := s1.heap.objs.size) (fp1 := [a]) (fp2 := [b]) (fun c hc => by rw [List.mem_singleton.mp hc]; exact lt1) (fun c hc => by rw [List.mem_singleton.mp hc]; exact lt2)
  refine ⟨_, _, _, _, H1, rfl, J, turn_LT S (Nat.ne_of_lt lt1) (Nat.ne_of_lt (Nat.lt_succ_of_lt lt2)), ⟨hz, hTI, ⟨_, _, hTO⟩, ⟨_, g1, rfl, rfl⟩, ⟨_, g2, rfl, rfl⟩⟩, fun c hcm => ?_, q⟩
  have le : s1.heap.objs.size ≤ c := by
    rcases (by simpa using hcm : c = s1.heap.objs.size + 4 ∨ c = s1.heap.objs.size + 2 ∨ c = s1.heap.objs.size + 3 ∨ c = s1.heap.objs.size ∨ c = s1.heap.objs.size + 1) with e | e | e | e | e <;> (rw [e]; first | exact Nat.le_refl _ | exact Nat.le_add_right _ _)
  exact I1.fpOk le (I1.hok.fresh le)
theorem walk_LT {K : PySem.W.Frag} {a b : Addr} {us ws : List V} {n : Nat} (hx : us.length = n) (hy : ws.length = n) : Walk (ItLT K a b) n (fun H => SqL K H a us ∧ SqT K H b ws) (YPair (fun i => us[i]?) (fun i => ws[i]?)) := by
  refine ⟨fun i H hi q => ⟨us, ws, us[i]'(by omega), ws[i]'(by omega), q.1, q.2, List.getElem?_eq_getElem _, List.getElem?_eq_getElem _⟩, fun H q => ⟨us, ws, q.1, q.2, hx, hy⟩, fun i H v H' hi q y => ?_⟩
  obtain ⟨T, x, z, h1, h2, h3, h4, h5⟩ := y
  exact ⟨T, x, z, h1, h2, h3, h4 us q.1, h5 ws q.2⟩
end NG

namespace NG
open PySem PySem.Spec PyProof.Rows L2
/-! ### enumerate of a tuple -/
set_option maxHeartbeats 1000000 in
theorem enum_new1 {v : Value} {ob : Obj} {Hv : Heap → Prop} (B : Begins v ob Hv) :
    Meets (Builtin.«enumerate.__new__» ⟨[.type "enumerate", v], []⟩) (fun _ R st => Hv st.heap ∧ R (.ok (.ret (.ref (st.heap.push ob).objs.size))) { st with heap := (st.heap.push ob).push { cls := .type "enumerate", data := .fields #[.none, .bool false, .ref st.heap.objs.size, rawInt 0, .none, .none] } }) := by
  refine .of_wp fun pr wl A R st h => ?_
  obtain ⟨hp, g, d, tk, os⟩ := st
  obtain ⟨hv, hR⟩ := h
  have se := sub_enumerate
  have qi : ∀ {A' : Around} {E : Value → Shared → Prop} {Q : Value → Shared → Prop}, Q (.ref hp.objs.size) ⟨hp.push ob, g, d, tk, os⟩ → wpAny (model pr wl) A' (pyIter v) Q E ⟨hp, g, d, tk, os⟩ := fun q => B.iter pr wl _ _ ⟨hp, g, d, tk, os⟩ _ hv q
  wp_walk using qi
  refine wpAny_stack_any fun sk => wpAny_pure ?_
  split
  · rename_i c _ _ _ _ _
    cases (c == Value.type "enumerate")
    all_goals
      wp_walk using qi
      exact ⟨_, rfl, hR⟩
  · wp_walk using qi
    exact ⟨_, rfl, hR⟩
theorem enum_call1 {pr : Program} {wl : World} {A : Around} {E : Value → Shared → Prop} {st : Shared} {v : Value} {ob : Obj} {Hv : Heap → Prop} {Q : Value → Shared → Prop} (B : Begins v ob Hv) (hv : Hv st.heap)
    (hQ : ∀ h', IsEnum h' (st.heap.objs.size + 1) st.heap.objs.size 0 .none → h'.get? st.heap.objs.size = some ob → (∀ b o, st.heap.get? b = some o → h'.get? b = some o) → Q (.ref (st.heap.objs.size + 1)) { st with heap := h' }) : wpAny (model pr wl) A (call (.type "enumerate") [v]) Q E st := by
  refine callType_new F.called_enumerate (by decide) (F.typeCall_enumerate_1 _) (F.newCall_enumerate_1 _) (fun x => F.args_object_init_2 x _) F.entry_enumerate_new (enum_new1 B) ⟨hv, ?_⟩
  have sz : (st.heap.push ob).objs.size = st.heap.objs.size + 1 := Heap.size_push ..
  show _ ∧ _
  rw [sz]
  have ie : IsEnum ((st.heap.push ob).push { cls := .type "enumerate", data := .fields #[.none, .bool false, .ref st.heap.objs.size, rawInt 0, .none, .none] }) (st.heap.objs.size + 1) st.heap.objs.size 0 .none := by
    have t := Heap.get?_push_size (st.heap.push ob) (o := { cls := .type "enumerate", data := .fields #[.none, .bool false, .ref st.heap.objs.size, rawInt 0, .none, .none] }) rfl
    rw [sz] at t
    exact t
  exact ⟨⟨_, ie, rfl⟩, hQ _ ie (Heap.get?_push_of_some _ (Heap.get?_push_size _ B.free)) fun b o x => Heap.get?_push_of_some _ (Heap.get?_push_of_some _ x)⟩
def ItEn (K : PySem.W.Frag) (a : Addr) : It :=
  ⟨fun i H => ∃ (ws : List V) (v : V), SqT K H a ws ∧ ws[i]? = some v,
   fun i H r H' => ∃ (T : Addr) (v : V), r = .ref T ∧ H T = none ∧ H' = upd H T (.tup [.int (i : Nat), v]) ∧ ∀ ws, SqT K H a ws → ws[i]? = some v,
   fun i H => ∃ ws : List V, SqT K H a ws ∧ ws.length = i⟩
theorem turn_En {P : Program} {w : World} {K : PySem.W.Frag} {es : List Expr} {k : Nat} {ps : Pos} {a e it : Addr} (ne : e ≠ it) (nea : e ≠ a) (na : a ≠ it) :
    Turn P w K (.Tuple es k ps) (ItEn K a) [e, it] e (fun i h => (∃ old, IsEnum h e it ((i : Nat) : Int) old) ∧ h.IsTupleIter it a i) := by
  have two : ∀ {c : Addr}, c ∈ [e, it] → c = e ∨ c = it := fun h => by simpa using h
  have lives : ∀ (i : Nat) (h : Heap), ((∃ old, IsEnum h e it ((i : Nat) : Int) old) ∧ h.IsTupleIter it a i) → ∀ c ∈ [e, it], ∃ o, h.get? c = some o ∧ ∀ v, o.data ≠ .cell v := fun i h st c hc => by
    obtain ⟨⟨old, s1⟩, ⟨o5, s5, _, d5⟩⟩ := st
    rcases two hc with rfl | rfl
    · exact ⟨_, s1, fun v q => nomatch q⟩
    · exact ⟨o5, s5, fun v q => by rw [d5] at q; exact nomatch q⟩
  have hef : e ∉ [it, a] := fun m => by
    rcases (by simpa using m : e = it ∨ e = a) with q | q
    · exact ne q
    · exact nea q
  refine ⟨List.mem_cons_self, lives, fun i h h' st kp => ?_, fun X eP ew eK hc i pins s σ H E I hf st hg => ?_, fun X eP ew eK hc i pins s σ H E I hf st hg => ?_, fun A i s Q E st q => let ⟨⟨_, z⟩, _⟩ := st; wpAny_pyIter_enum z q⟩
  · obtain ⟨⟨old, s1⟩, s5⟩ := st
    exact ⟨⟨old, kp _ (by simp) _ s1⟩, s5.at fun o q => kp _ (by simp) o q⟩
  · cases eP
    cases ew
    cases eK
    have lv := lives i _ st
    obtain ⟨s1, s5⟩ := st
    obtain ⟨ws, v, qb, hv⟩ := hg
    obtain ⟨lb, rb, pb, _⟩ := I.tuple qb
    obtain ⟨v', ev', rv⟩ := rb.get hv
    have W := WalksT.enumerateD (A := X.A) (Draws.tuple (prog := X.prog) (w := X.w) (A := X.A.in1) (I.ok.hd hc) it a na lb.toArray) e ne hef List.mem_cons_self
    have ir : i < lb.length := (List.getElem?_eq_some_iff.mp ev').1
    refine W.item i s _ E (by rw [List.size_toArray]; omega) ⟨s1, s5, pb⟩ fun T vals h1 tk pv hT tT mid k1 => ⟨_, rfl, ?_⟩
    have apT := W.apart i T h1 mid
    refine W.go es k ps i T _ _ _ mid fun h2 st2 k2 => ?_
    obtain ⟨t2, x2, e2, rfl⟩ := pv
    have f2 : x2 = v' := by
      have := e2.symm.trans (show lb.toArray[i]? = some v' by simpa using ev')
      exact Option.some.inj this
    subst f2
    obtain ⟨z1, z5, _⟩ := st2
    have tT2 : h2.IsTuple T #[.int i t2, x2] := tT.at fun o e => k2 T o apT e
    have J := I.turnedNew (h' := h2) (t' := tk) (ch := [e, it]) (T := T) (ob := .tup [.int (i : Nat), v]) (fun c o hb' q => k2 c o hb' (k1 c o hb' q)) hf hT ⟨(by show 2 ≤ sizeLine; decide), [.int i t2, x2], .cons ⟨_, rfl⟩ (.cons rv .nil), tT2⟩
    refine ⟨.ref T, _, J, rfl, ⟨T, v, rfl, I.hok.fresh hT, rfl, fun l hl => ?_⟩, ⟨z1, z5⟩, fun c hcm => ?_⟩
    · rw [I.tuple_inj hl qb]
      exact hv
    · obtain ⟨o, ho, _⟩ := lv c hcm
      have lt := Heap.lt_size ho
      rw [upd_ne (Nat.ne_of_lt (Nat.lt_of_lt_of_le lt hT))]
      exact (hf c hcm).1
  · cases eP
    cases ew
    cases eK
    obtain ⟨s1, s5⟩ := st
    obtain ⟨ws, qb, e2⟩ := hg
    obtain ⟨lb, rb, pb, _⟩ := I.tuple qb
    have W := WalksT.enumerateD (A := X.A) (Draws.tuple (prog := X.prog) (w := X.w) (A := X.A.in1) (I.ok.hd hc) it a na lb.toArray) e ne hef List.mem_cons_self
    have l2 := rb.length
    have en : lb.toArray.size = i := by
      rw [List.size_toArray]
      omega
    rw [en] at W
    refine W.done s _ E ⟨s1, s5, pb⟩ fun h1 tk k1 => ⟨rfl, ?_⟩
    exact I.turnedL (t' := tk) (ch := [e, it]) (fun c o hb' q => k1 c o hb' q) hf
def iEnT (K : PySem.W.Frag) (ta : TA) : TI := fun σ H R => ta σ H fun vs H1 => ∃ a ws, vs = [.ref a] ∧ SqT K H1 a ws ∧ R (ItEn K a) H1
theorem pi_enumT {X : Cx} {x : Expr} {ta : TA} {p pos tpos : Pos} {elts : List Expr} {kk : Nat} (hg : Gl X "enumerate") (hm : X.mg "enumerate" = none) (ha : PA X [x] ta)
    (hs : starEach [x] X.env = [(false, eval x X.env)] := by rfl) : PI X (.Tuple elts kk tpos) (.Call (.Name "enumerate" p) [x] [] pos) (iEnT X.K ta) := by
  refine ⟨fun pins s σ H R I h => Call_ (ld_blt I hg hm boot_enumerate (PyProof.Rows.callWith_type1 (thn (ha.run pos pins s σ H _ I h) fun us s1 ⟨vs, H1, I1, r1, q1⟩ => ?_) hs rfl))⟩
  obtain ⟨a, wl, rfl, qb, q⟩ := q1
  rw [Vals.ref1 r1]
  obtain ⟨lb, rb, pb, _⟩ := I1.tuple qb
  obtain ⟨ob, hob, _⟩ := id pb
  have lt2 : a < s1.heap.objs.size := Heap.lt_size hob
  refine enum_call1 (begins_tuple a lb.toArray) pb fun h' he g2 hk => wpAny_pyIter_enum he ?_
  have J : Inv X pins σ H1 { s1 with heap := h' } := I1.kept (t' := s1.toks) hk
  refine ⟨_, _, _, _, H1, rfl, J, turn_En (a := a) (e := s1.heap.objs.size + 1) (it := s1.heap.objs.size) (Nat.succ_ne_self _) (Nat.ne_of_gt (Nat.lt_succ_of_lt lt2)) (Nat.ne_of_lt lt2), ⟨⟨.none, he⟩, ⟨_, g2, rfl, rfl⟩⟩, fun c hcm => ?_, q⟩
  have le : s1.heap.objs.size ≤ c := by
    rcases (by simpa using hcm : c = s1.heap.objs.size + 1 ∨ c = s1.heap.objs.size) with e | e <;> (rw [e]; first | exact Nat.le_refl _ | exact Nat.le_add_right _ _)
  exact I1.fpOk le (I1.hok.fresh le)
theorem walk_En {K : PySem.W.Frag} {a : Addr} {ws : List V} {n : Nat} (hy : ws.length = n) : Walk (ItEn K a) n (fun H => SqT K H a ws) (YPair (fun i => some (.int (i : Nat))) (fun i => ws[i]?)) := by
  refine ⟨fun i H hi q => ⟨ws, ws[i]'(by omega), q, List.getElem?_eq_getElem _⟩, fun H q => ⟨ws, q, hy⟩, fun i H v H' hi q y => ?_⟩
  obtain ⟨T, z, h1, h2, h3, h4⟩ := y
  exact ⟨T, .int (i : Nat), z, h1, h2, h3, rfl, h4 ws q⟩
end NG

namespace NG
open PySem PySem.Spec PyProof.Rows L2
/-! ### the same with a truth for jumps -/
def spExprB (K : PySem.W.Frag) (m : Nat) : Sp := fun vs H Q _ => ∃ (a : Addr) (many l n : Nat) (j : Bool), vs = [.ref a, .int (many : Int), .int (l : Int), .bl j] ∧ True ∧ l < m ∧ 1 ≤ many ∧ many ≤ 1000 ∧ HandAt H a n ∧ n + cost l ≤ 999999000 ∧
  ∀ H' v e, But a H H' → HandAt H' a (n + cost l) → ExAt K H' e v → ExOk many e → e.dep ≤ l + 1 → Q v H'
/-- a stake: cut to its far -/
def spStakeB (K : PySem.W.Frag) (m : Nat) : Sp := fun vs H Q _ => ∃ (a : Addr) (many l n : Nat) (j : Bool), vs = [.ref a, .int (many : Int), .int (l : Int), .bl j] ∧ True ∧ l < m ∧ 1 ≤ many ∧ many ≤ 1000 ∧ HandAt H a n ∧ n + cost l ≤ 999998000 ∧
  ∀ H' v e, But a H H' → HandAt H' a (n + cost l + 3) → ExAt K H' e v → ExOk many e → e.dep ≤ l + 3 → (∃ c : Int, e = .fig c ∧ -500 ≤ c ∧ c ≤ 500) ∨ (∃ (c : Int) (e' : Ex), e = .two .least (.fig c) (.two .most (.fig (-c)) e') ∧ 1 ≤ c ∧ c ≤ 500 ∧ ExOk many e' ∧ e'.dep ≤ l + 1) → Q v H'
def spDoubterB (K : PySem.W.Frag) (m : Nat) : Sp := fun vs H Q _ => ∃ (a : Addr) (many l n : Nat) (j : Bool), vs = [.ref a, .int (many : Int), .int (l : Int), .bl j] ∧ True ∧ l < m ∧ l ≤ 5 ∧ 1 ≤ many ∧ many ≤ 3 ∧ HandAt H a n ∧ n ≤ 999990000 ∧
  ∀ H' v D, But a H H' → HandAt H' a (n + 3 * cost l + 300) → DbAt K H' D v → DbOk many (l + 3) 2 10 D → (∀ e ∈ D.stakes, StOk many l e) → Q v H'
end NG

namespace NG
open PySem PySem.Spec PyProof.Rows L2
/-! ### a tuple so many times, any number of times -/
theorem mul_itself (l : Addr) (its : Array Value) (n : Nat) (dd : Option Addr) (sl : Array (Option Value)) (x : Int) (u : Tok) (c0 : (decide (x < -(2 ^ 63)) || decide (x ≥ 2 ^ 63)) = false) (c1 : (its.isEmpty || x == 1) = true) :
    Meets (Builtin.«tuple.__mul__» ⟨[.ref l, .int x u], []⟩) (fun _ R st => st.heap.get? l = some { cls := .type "tuple", dict := dd, data := .seq its n, slots := sl } ∧ R (.ok (.ret (Value.ref l))) st) := by
  refine .of_wp fun pr wl A R st h => ?_
  obtain ⟨hp, g, d, tk, os⟩ := st
  obtain ⟨hl, hR⟩ := h
  have f1 := AutoSeq1.idx_int
  wp_walk using wpAny_loadPart' hl
  repeat (first
    | (refine wpAny_ite_false (decide_eq_false (by rw [c0]; exact Bool.false_ne_true)) ?_; wp_walk using wpAny_loadPart' hl)
    | (refine wpAny_ite_true (decide_eq_true c1) ?_; wp_walk using wpAny_loadPart' hl))
  exact ⟨_, rfl, hR⟩
theorem mul_none (l : Addr) (its : Array Value) (n : Nat) (dd : Option Addr) (sl : Array (Option Value)) (x : Int) (u : Tok) (c0 : (decide (x < -(2 ^ 63)) || decide (x ≥ 2 ^ 63)) = false) (c1 : (its.isEmpty || x == 1) = false) (c2 : (decide (x ≤ 0) || its.isEmpty) = true) :
    Meets (Builtin.«tuple.__mul__» ⟨[.ref l, .int x u], []⟩) (fun _ R st => st.heap.get? l = some { cls := .type "tuple", dict := dd, data := .seq its n, slots := sl } ∧ R (.ok (.ret (Value.ref st.heap.objs.size))) { st with heap := st.heap.push { cls := Value.type "tuple", data := Data.seq #[] } }) := by
  refine .of_wp fun pr wl A R st h => ?_
  obtain ⟨hp, g, d, tk, os⟩ := st
  obtain ⟨hl, hR⟩ := h
  have f1 := AutoSeq1.idx_int
  wp_walk using wpAny_loadPart' hl
  repeat (first
    | (refine wpAny_ite_false (decide_eq_false (by rw [c0]; exact Bool.false_ne_true)) ?_; wp_walk using wpAny_loadPart' hl)
    | (refine wpAny_ite_false (decide_eq_false (by rw [c1]; exact Bool.false_ne_true)) ?_; wp_walk using wpAny_loadPart' hl)
    | (refine wpAny_ite_true (decide_eq_true c2) ?_; wp_walk using wpAny_loadPart' hl))
  exact ⟨_, rfl, hR⟩
def rRepA (K : PySem.W.Frag) : R2 := fun x y H Q => ∃ l k xs, x = .ref l ∧ y = .int k ∧ SqT K H l xs ∧ -1000 ≤ k ∧ k ≤ 1000 ∧ xs.length ≤ 1000 ∧ ∀ H' p, Same H H' → SqT K H' p (List.replicate k.toNat xs).flatten → Q (.ref p) H'
theorem op_repA {X : Cx} : OpR X (binaryOp .Mult) (rRepA X.K) := by
  intro pins s σ H x y v u Q I rx ry h
  obtain ⟨l, k, xs, rfl, rfl, hT, h0, h2, hz, q⟩ := h
  by_cases hbig : xs ≠ [] ∧ 2 ≤ k
  · exact op_repT pins s σ H _ _ v u Q I rx ry ⟨l, k, xs, rfl, rfl, hT, hbig.1, hbig.2, h2, hz, fun p np => q _ p (same_new np) (SqT.of upd_same)⟩
  · have rx0 := rx
    cases rx
    obtain ⟨t, rfl⟩ := ry
    obtain ⟨its, r, ⟨⟨cls, dd, data, sl⟩, ho, hc, n, hd⟩, hs⟩ := I.tuple hT
    simp only at hc hd
    subst hc hd
    have hle : its.length = xs.length := r.length.symm
    have c0 : (decide (k < -(2 ^ 63)) || decide (k ≥ 2 ^ 63)) = false := by
      rw [decide_eq_false (by omega), decide_eq_false (by omega)]
      rfl
    by_cases hone : xs = [] ∨ k = 1
    · have c1 : (its.toArray.isEmpty || k == 1) = true := by
        rcases hone with e | e
        · rw [e] at hle
          have : its = [] := List.eq_nil_of_length_eq_zero hle
          rw [this]
          rfl
        · rw [e]
          simp
      have e1 : (List.replicate k.toNat xs).flatten = xs := by
        rcases hone with e | e
        · rw [e]
          simp
        · rw [e]
          simp
      refine wpAny_binaryOp_repeat_ref (T := "tuple") (U := "int") (by decide) ⟨_, ho, rfl⟩ (fun s' => typeIs_int s' k t) noFill_tuple_mul F.fills_int_mul F.slot_int_rmul repeat_tuple F.slot_int_index.lookup
        (call_meets F.slot_int_rmul (typeIs_int s k t) F.entry_int_rmul (F.args_int_rmul_2 _ _) (int_rmul_tuple k t l its.toArray n dd sl) ⟨ho, rfl, ⟨_, ho, rfl⟩, call_meets F.slot_tuple_mul ⟨_, ho, rfl⟩ F.entry_tuple_mul (F.args_tuple_mul_2 _ _) (mul_itself l its.toArray n dd sl k t c0 c1) ⟨ho, ?_⟩⟩)
      exact ⟨.ref l, H, I, rfl, q H l (Same.refl _) (by rw [e1]; exact hT)⟩
    · have hk0 : k ≤ 0 := by
        have h1 : ¬ xs = [] := fun z => hone (.inl z)
        have h2 : ¬ k = 1 := fun z => hone (.inr z)
        have h3 : ¬ 2 ≤ k := fun z => hbig ⟨h1, z⟩
        omega
      have hn : its ≠ [] := fun e => hone (.inl (by
        rw [e] at hle
        exact List.eq_nil_of_length_eq_zero hle.symm))
      have hi : its.toArray.isEmpty = false := by
        cases its with
        | nil => exact absurd rfl hn
        | cons a b => rfl
      have c1 : (its.toArray.isEmpty || k == 1) = false := by
        rw [hi, Bool.false_or]
        exact beq_eq_false_iff_ne.mpr (by omega)
      have c2 : (decide (k ≤ 0) || its.toArray.isEmpty) = true := by
        rw [decide_eq_true hk0]
        rfl
      have e0 : (List.replicate k.toNat xs).flatten = [] := by
        rw [show k.toNat = 0 by omega]
        rfl
      refine wpAny_binaryOp_repeat_ref (T := "tuple") (U := "int") (by decide) ⟨_, ho, rfl⟩ (fun s' => typeIs_int s' k t) noFill_tuple_mul F.fills_int_mul F.slot_int_rmul repeat_tuple F.slot_int_index.lookup
        (call_meets F.slot_int_rmul (typeIs_int s k t) F.entry_int_rmul (F.args_int_rmul_2 _ _) (int_rmul_tuple k t l its.toArray n dd sl) ⟨ho, rfl, ⟨_, ho, rfl⟩, call_meets F.slot_tuple_mul ⟨_, ho, rfl⟩ F.entry_tuple_mul (F.args_tuple_mul_2 _ _) (mul_none l its.toArray n dd sl k t c0 c1 c2) ⟨ho, ?_⟩⟩)
      have np : H s.heap.objs.size = none := I.hok.fresh (Nat.le_refl _)
      refine ⟨.ref s.heap.objs.size, _, I.laid (t' := s.toks) (o := .tup []) (fun b ob q => Heap.get?_push_of_some _ q) (Nat.le_refl _) ?_, rfl, q _ _ (same_new np) (by rw [e0]; exact SqT.of upd_same)⟩
      exact ⟨Nat.zero_le _, [], .nil, IsTup.new _ _⟩
end NG

namespace NG
open PySem PySem.Spec PyProof.Rows L2
/-! ### what is shown, of small numbers -/
structure Shh (d : PyData) (w k : Nat) : Prop where
  sh : d.showable = true
  lf : d.leavesShort 70 = true
  wt : d.weight ≤ w
  dp : d.depth ≤ k
structure ShhAll (ds : List PyData) (w k : Nat) : Prop where
  sh : PyData.showableAll ds = true
  lf : PyData.leavesShortAll 70 ds = true
  wt : PyData.weightAll ds ≤ w
  dp : PyData.depthAll ds ≤ k
theorem Shw.hh {d : PyData} {w k : Nat} (h : Shw d w k) (l : d.leavesShort 70 = true) : Shh d w k := ⟨h.sh, l, h.wt, h.dp⟩
theorem int60 {i : Int} (h : i.natAbs < 2 ^ 60) : PyData.leavesShort 70 (.int i) = true := by
  have hl : i.natAbs.log2 < 60 := PySem.Flt.log2_lt_of (by decide) h
  show decide ((PyData.shown (.int i)).length ≤ 70) = true
  refine decide_eq_true ?_
  have e := int_text_length_le (k := 60) (by decide) hl
  show (Str.ofString (toString i)).length ≤ 70
  rw [PySem.ofString_length]
  omega
theorem Shh.int {i : Int} (h : i.natAbs < 2 ^ 60) : Shh (.int i) 60 0 := by
  have hl : i.natAbs.log2 < 60 := PySem.Flt.log2_lt_of (by decide) h
  have h6 := Shw.int (i := i) (Nat.lt_of_lt_of_le h (Nat.pow_le_pow_right (by decide) (by decide)))
  refine ⟨h6.sh, int60 h, ?_, Nat.le_refl _⟩
  show (if i == 0 then 0 else i.natAbs.log2 + 1) ≤ 60
  split <;> omega
theorem Shh.str {x : Str} (h : (x.cps.toList.all fun c => decide (c < 16 ^ 8)) = true) (hl : x.cps.size ≤ 10) : Shh (.str x) 10 0 := ⟨rfl, h, hl, Nat.le_refl _⟩
theorem ShhAll.nil {k : Nat} : ShhAll [] 0 k := ⟨rfl, rfl, Nat.le_refl _, Nat.zero_le _⟩
theorem ShhAll.cons {d : PyData} {ds : List PyData} {w1 w2 k1 k2 k : Nat} (h1 : Shh d w1 k1) (h2 : ShhAll ds w2 k2) (hk1 : k1 ≤ k) (hk2 : k2 ≤ k) : ShhAll (d :: ds) (w1 + 1 + w2) k := by
  refine ⟨?_, ?_, ?_, ?_⟩
  · show (d.showable && PyData.showableAll ds) = true
    rw [h1.sh, h2.sh]
    rfl
  · show (d.leavesShort 70 && PyData.leavesShortAll 70 ds) = true
    rw [h1.lf, h2.lf]
    rfl
  · show d.weight + 1 + PyData.weightAll ds ≤ _
    have a := h1.wt
    have b := h2.wt
    omega
  · show max d.depth (PyData.depthAll ds) ≤ k
    have a := h1.dp
    have b := h2.dp
    omega
theorem ShhAll.tup {ds : List PyData} {w k : Nat} (h : ShhAll ds w k) : Shh (.tuple ds) w (k + 1) := ⟨h.sh, h.lf, h.wt, by show PyData.depthAll ds + 1 ≤ k + 1; have := h.dp; omega⟩
theorem ShhAll.lst {ds : List PyData} {w k : Nat} (h : ShhAll ds w k) : Shh (.list ds) w (k + 1) := ⟨h.sh, h.lf, h.wt, by show PyData.depthAll ds + 1 ≤ k + 1; have := h.dp; omega⟩
theorem Shh.mono {d : PyData} {w w' k k' : Nat} (h : Shh d w k) (hw : w ≤ w') (hk : k ≤ k') : Shh d w' k' := ⟨h.sh, h.lf, Nat.le_trans h.wt hw, Nat.le_trans h.dp hk⟩
theorem ShhAll.mono {d : List PyData} {w w' k k' : Nat} (h : ShhAll d w k) (hw : w ≤ w') (hk : k ≤ k') : ShhAll d w' k' := ⟨h.sh, h.lf, Nat.le_trans h.wt hw, Nat.le_trans h.dp hk⟩
theorem Shh.fits {d : PyData} {w k : Nat} (h : Shh d w k) (hw : w ≤ 230000) : d.shown.length ≤ sizeLine := by
  have := PyData.shown_le 70 (by decide) d h.lf
  have := h.wt
  have e : sizeLine = 16777216 := by decide
  omega
theorem ShhAll.app {es : List PyData} {w2 k : Nat} : ∀ {ds : List PyData} {w1 : Nat}, ShhAll ds w1 k → ShhAll es w2 k → ShhAll (ds ++ es) (w1 + w2) k
  | [], w1, _, h2 => h2.mono (by omega) (Nat.le_refl _)
  | d :: ds, w1, h1, h2 => by
    have s1 : (d.showable && PyData.showableAll ds) = true := h1.sh
    have s2 : (d.leavesShort 70 && PyData.leavesShortAll 70 ds) = true := h1.lf
    have s3 : d.weight + 1 + PyData.weightAll ds ≤ w1 := h1.wt
    have s4 : max d.depth (PyData.depthAll ds) ≤ k := h1.dp
    have s1 := Bool.and_eq_true_iff.mp s1
    have s2 := Bool.and_eq_true_iff.mp s2
    have hd : Shh d d.weight k := ⟨s1.1, s2.1, Nat.le_refl _, by omega⟩
    have hr : ShhAll ds (PyData.weightAll ds) k := ⟨s1.2, s2.2, Nat.le_refl _, by omega⟩
    exact (ShhAll.cons hd (ShhAll.app hr h2) (Nat.le_refl _) (Nat.le_refl _)).mono (by omega) (Nat.le_refl _)
theorem lf_and {d : PyData} {ds : List PyData} (h : d.leavesShort 70 = true) (t : PyData.leavesShortAll 70 ds = true) : PyData.leavesShortAll 70 (d :: ds) = true := by
  show (d.leavesShort 70 && PyData.leavesShortAll 70 ds) = true
  rw [h, t]
  rfl
theorem lf_ex {many : Nat} (hm : many ≤ 1000) : ∀ {e : Ex}, ExOk many e → (toD e).leavesShort 70 = true
  | .fig c, o => lf_and (d := .str "fig") (by decide) (lf_and (int60 (by have := o.1; have := o.2; omega)) rfl)
  | .reg i, o => lf_and (d := .str "reg") (by decide) (lf_and (int60 (by have o : i < 4 := o; omega)) rfl)
  | .share j, o => lf_and (d := .str "share") (by decide) (lf_and (int60 (by have o : j < many := o; omega)) rfl)
  | .two w a b, o => lf_and (d := .str (wn w)) (by cases w <;> decide) (lf_and (lf_ex hm o.1) (lf_and (lf_ex hm o.2) rfl))
  | .times f a, o => lf_and (d := .str "times") (by decide) (lf_and (int60 (by have := o.1.1; have := o.1.2; omega)) (lf_and (lf_ex hm o.2) rfl))
  | .by i a, o => lf_and (d := .str "by") (by decide) (lf_and (int60 (by have := o.1; omega)) (lf_and (lf_ex hm o.2) rfl))
  | .when i c a b, o => lf_and (d := .str "when") (by decide) (lf_and (int60 (by have := o.1; omega)) (lf_and (int60 (by have := o.2.1.1; have := o.2.1.2; omega)) (lf_and (lf_ex hm o.2.2.1) (lf_and (lf_ex hm o.2.2.2) rfl))))
  | .whr j c a b, o => lf_and (d := .str "where") (by decide) (lf_and (int60 (by have := o.1; omega)) (lf_and (int60 (by have := o.2.1.1; have := o.2.1.2; omega)) (lf_and (lf_ex hm o.2.2.1) (lf_and (lf_ex hm o.2.2.2) rfl))))
theorem lf_ds {many : Nat} (hm : many ≤ 1000) : ∀ {d : Ds}, DsOk many d → PyData.leavesShortAll 70 (dsD d) = true
  | .nil, _ => rfl
  | .op w i x r, o => lf_and (d := .tuple [.str (dn w), .int (i : Int), .int x]) (lf_and (d := .str (dn w)) (by cases w <;> decide) (lf_and (int60 (by have := o.1; omega)) (lf_and (int60 (by have := xok_small hm o.2.1; omega)) rfl))) (lf_ds hm o.2.2)
  | .when i c a b r, o => lf_and (d := .tuple [.str "when", .int (i : Int), .int c, .tuple (dsD a), .tuple (dsD b)]) (lf_and (d := .str "when") (by decide) (lf_and (int60 (by have := o.1; omega)) (lf_and (int60 (by have := o.2.1.1; have := o.2.1.2; omega)) (lf_and (d := .tuple (dsD a)) (lf_ds hm o.2.2.1) (lf_and (d := .tuple (dsD b)) (lf_ds hm o.2.2.2.1) rfl))))) (lf_ds hm o.2.2.2.2)
theorem lf_list {α : Type} {f : α → PyData} : ∀ {xs : List α}, (∀ x ∈ xs, (f x).leavesShort 70 = true) → PyData.leavesShortAll 70 (xs.map f) = true
  | [], _ => rfl
  | x :: r, h => lf_and (h x (by simp)) (lf_list fun y hy => h y (List.mem_cons_of_mem _ hy))
theorem lf_db {many dE dD cD : Nat} {D : Dbt} (hm : many ≤ 1000) (o : DbOk many dE dD cD D) : (dbD D).leavesShort 70 = true := by
  refine lf_and (d := .str D.name) (by rcases o.nm with e | e | e | e <;> rw [e] <;> decide) (lf_and (int60 (by have := o.sc; omega)) (lf_and (d := .tuple (D.begins.map PyData.int)) (lf_list fun x hx => int60 (by have := o.rg.2 x hx; omega)) (lf_and (d := .tuple (D.stakes.map toD)) (lf_list fun e he => lf_ex hm (o.st e he).1) (lf_and (d := .tuple (D.behinds.map fun d => .tuple (dsD d))) (lf_list fun d hd => ?_) rfl))))
  exact lf_ds hm (o.bh d hd).1
end NG

namespace NG
open PySem PySem.Spec PyProof.Rows L2
/-! ### ones, members -/
structure One where
  dbt : Dbt
  regs : List Int
  weight : Int
  motes : Int
  owed : Int
  days : Int
  got : Int
def OneAt (K : PySem.W.Frag) (H : Hp) (o : One) (v : V) : Prop := ∃ (p : Addr) (dv rv : V), v = .ref p ∧ SqT K H p [.str "one", dv, rv, .int o.weight, .int o.motes, .int o.owed, .int o.days, .int o.got] ∧ DbAt K H o.dbt dv ∧ RegsAt K H o.regs rv
theorem OneAt.imp {K : PySem.W.Frag} {H H' : Hp} {o : One} {v : V} (x : OneAt K H o v) (h : ∀ p xs, SqT K H p xs → SqT K H' p xs) : OneAt K H' o v := by
  obtain ⟨p, dv, rv, e, q, d, r⟩ := x
  exact ⟨p, dv, rv, e, h _ _ q, d.imp h, r.imp h⟩
def oneD (o : One) : PyData := .tuple [.str "one", dbD o.dbt, .tuple (o.regs.map PyData.int), .int o.weight, .int o.motes, .int o.owed, .int o.days, .int o.got]
theorem OneAt.dp {K : PySem.W.Frag} {H : Hp} {o : One} {v : V} (x : OneAt K H o v) : Dp K H v (oneD o) := by
  obtain ⟨p, dv, rv, e, q, d, ⟨pr, e2, r, _⟩⟩ := x
  subst e e2
  exact .tup q (.cons (.str _) (.cons d.dp (.cons (.tup r (dp_ints _)) (.cons (.int _) (.cons (.int _) (.cons (.int _) (.cons (.int _) (.cons (.int _) .nil))))))))
structure OneOk (many dE dD cD : Nat) (o : One) : Prop where
  db : DbOk many dE dD cD o.dbt
  rg : RegOk o.regs
  w1 : 1 ≤ o.weight ∧ o.weight ≤ 1000000000000
  m1 : 0 ≤ o.motes ∧ o.motes ≤ 3000000000000
  o1 : 0 ≤ o.owed ∧ o.owed ≤ 99
  d1 : 0 ≤ o.days ∧ o.days ≤ 40
  g1 : -5000000000 ≤ o.got ∧ o.got ≤ 5000000000
theorem shh_one {many dE dD cD : Nat} {o : One} (hm : many ≤ 3) (hE : dE ≤ 8) (hD : dD ≤ 8) (h : OneOk many dE dD cD o) : Shh (oneD o) (600 + 3 * wgt dE + 180 * cD) 22 := by
  have h1 : Shh (.str "one") 10 0 := .str (by decide) (by decide)
  have h2 := (shw_db hm hE hD h.db).hh (lf_db (by omega) h.db)
  have h3 : Shh (.tuple (o.regs.map PyData.int)) (16 * o.regs.length) 1 := ((shw_smalls h.rg.2).tup).hh (lf_list fun x hx => int60 (by have := h.rg.2 x hx; omega))
  have i1 : Shh (.int o.weight) 60 0 := .int (by have := h.w1; omega)
  have i2 : Shh (.int o.motes) 60 0 := .int (by have := h.m1; omega)
  have i3 : Shh (.int o.owed) 60 0 := .int (by have := h.o1; omega)
  have i4 : Shh (.int o.days) 60 0 := .int (by have := h.d1; omega)
  have i5 : Shh (.int o.got) 60 0 := .int (by have := h.g1; omega)
  have hl := h.rg.1
  rw [hl] at h3
  have z : ShhAll [PyData.str "one", dbD o.dbt, .tuple (o.regs.map PyData.int), .int o.weight, .int o.motes, .int o.owed, .int o.days, .int o.got] _ 21 := .cons h1 (.cons h2 (.cons h3 (.cons i1 (.cons i2 (.cons i3 (.cons i4 (.cons i5 (ShhAll.nil (k := 0)) (k := 21) (by omega) (by omega)) (by omega) (Nat.le_refl _)) (by omega) (Nat.le_refl _)) (by omega) (Nat.le_refl _)) (by omega) (Nat.le_refl _)) (by omega) (Nat.le_refl _)) (by omega) (Nat.le_refl _)) (by omega) (Nat.le_refl _)
  exact z.tup.mono (by omega) (by omega)
inductive Ms where
  | nil
  | one (o : One) (r : Ms)
  | house (nm : Str) (m r : Ms)
inductive Mk where
  | one (o : One)
  | house (nm : Str) (m : Ms)
def MsAt (K : PySem.W.Frag) (H : Hp) : Ms → List V → Prop
  | .nil, vs => vs = []
  | .one o r, vs => ∃ v us, vs = v :: us ∧ OneAt K H o v ∧ MsAt K H r us
  | .house nm m r, vs => ∃ p pm xs us, vs = .ref p :: us ∧ SqT K H p [.str "house", .str nm, .ref pm] ∧ SqT K H pm xs ∧ MsAt K H m xs ∧ MsAt K H r us
theorem MsAt.imp {K : PySem.W.Frag} {H H' : Hp} (h : ∀ p xs, SqT K H p xs → SqT K H' p xs) : ∀ {m : Ms} {vs : List V}, MsAt K H m vs → MsAt K H' m vs
  | .nil, _, e => e
  | .one _ _, _, ⟨v, us, e, q, r⟩ => ⟨v, us, e, q.imp h, MsAt.imp h r⟩
  | .house _ _ _, _, ⟨p, pm, xs, us, e, q, qm, m, r⟩ => ⟨p, pm, xs, us, e, h _ _ q, h _ _ qm, MsAt.imp h m, MsAt.imp h r⟩
theorem MsAt.same {K : PySem.W.Frag} {H H' : Hp} {m : Ms} {vs : List V} (x : MsAt K H m vs) (s : Same H H') : MsAt K H' m vs := x.imp fun _ _ q => same_sqt s q
def MkAt (K : PySem.W.Frag) (H : Hp) : Mk → V → Prop
  | .one o, v => OneAt K H o v
  | .house nm m, v => ∃ p pm xs, v = .ref p ∧ SqT K H p [.str "house", .str nm, .ref pm] ∧ SqT K H pm xs ∧ MsAt K H m xs
theorem MkAt.imp {K : PySem.W.Frag} {H H' : Hp} (h : ∀ p xs, SqT K H p xs → SqT K H' p xs) : ∀ {m : Mk} {v : V}, MkAt K H m v → MkAt K H' m v
  | .one _, _, x => OneAt.imp x h
  | .house _ _, _, ⟨p, pm, xs, e, q, qm, m⟩ => ⟨p, pm, xs, e, h _ _ q, h _ _ qm, m.imp h⟩
def msD : Ms → List PyData
  | .nil => []
  | .one o r => oneD o :: msD r
  | .house nm m r => .tuple [.str "house", .str nm, .tuple (msD m)] :: msD r
def mkD : Mk → PyData
  | .one o => oneD o
  | .house nm m => .tuple [.str "house", .str nm, .tuple (msD m)]
theorem MsAt.dps {K : PySem.W.Frag} {H : Hp} : ∀ {m : Ms} {vs : List V}, MsAt K H m vs → DpAll K H vs (msD m)
  | .nil, _, e => by subst e; exact .nil
  | .one _ _, _, ⟨v, us, e, q, r⟩ => by subst e; exact .cons q.dp r.dps
  | .house _ _ _, _, ⟨p, pm, xs, us, e, q, qm, m, r⟩ => by subst e; exact .cons (.tup q (.cons (.str _) (.cons (.str _) (.cons (.tup qm m.dps) .nil)))) r.dps
theorem MkAt.dp {K : PySem.W.Frag} {H : Hp} : ∀ {m : Mk} {v : V}, MkAt K H m v → Dp K H v (mkD m)
  | .one _, _, x => OneAt.dp x
  | .house _ _, _, ⟨p, pm, xs, e, q, qm, m⟩ => by subst e; exact .tup q (.cons (.str _) (.cons (.str _) (.cons (.tup qm m.dps) .nil)))
theorem MkAt.ref {K : PySem.W.Frag} {H : Hp} : ∀ {m : Mk} {v : V}, MkAt K H m v → ∃ p, v = .ref p
  | .one _, _, ⟨p, _, _, e, _⟩ => ⟨p, e⟩
  | .house _ _, _, ⟨p, _, _, e, _⟩ => ⟨p, e⟩
def mkW : Mk → Str
  | .one _ => "one"
  | .house _ _ => "house"
/-- the word ahead -/
theorem MkAt.wd {K : PySem.W.Frag} {H : Hp} : ∀ {m : Mk} {v : V}, MkAt K H m v → ∃ p xs, v = .ref p ∧ SqT K H p (.str (mkW m) :: xs)
  | .one _, _, ⟨p, _, _, e, q, _⟩ => ⟨p, _, e, q⟩
  | .house _ _, _, ⟨p, _, _, e, q, _⟩ => ⟨p, _, e, q⟩
def Ms.cnt : Ms → Nat
  | .nil => 0
  | .one _ r => 1 + r.cnt
  | .house _ m r => 1 + m.cnt + r.cnt
def Ms.len : Ms → Nat
  | .nil => 0
  | .one _ r => r.len + 1
  | .house _ _ r => r.len + 1
def Ms.dep : Ms → Nat
  | .nil => 0
  | .one _ r => r.dep
  | .house _ m r => max (m.dep + 1) r.dep
theorem Ms.len_le : ∀ m : Ms, m.len ≤ m.cnt
  | .nil => Nat.le_refl _
  | .one _ r => by have := r.len_le; show r.len + 1 ≤ 1 + r.cnt; omega
  | .house _ m r => by have := r.len_le; show r.len + 1 ≤ 1 + m.cnt + r.cnt; omega
theorem MsAt.len {K : PySem.W.Frag} {H : Hp} : ∀ {m : Ms} {vs : List V}, MsAt K H m vs → vs.length = m.len
  | .nil, _, e => by subst e; rfl
  | .one _ _, _, ⟨v, us, e, q, r⟩ => by subst e; rw [List.length_cons, r.len]; rfl
  | .house _ _ _, _, ⟨p, pm, xs, us, e, q, qm, m, r⟩ => by subst e; rw [List.length_cons, r.len]; rfl
def Ms.app : Ms → Ms → Ms
  | .nil, e => e
  | .one o r, e => .one o (r.app e)
  | .house nm m r, e => .house nm m (r.app e)
theorem MsAt.app {K : PySem.W.Frag} {H : Hp} : ∀ {d e : Ms} {vs ws : List V}, MsAt K H d vs → MsAt K H e ws → MsAt K H (d.app e) (vs ++ ws)
  | .nil, _, _, _, e, y => by subst e; exact y
  | .one _ _, _, _, _, ⟨v, us, e, q, r⟩, y => by subst e; exact ⟨v, _, rfl, q, MsAt.app r y⟩
  | .house _ _ _, _, _, _, ⟨p, pm, xs, us, e, q, qm, m, r⟩, y => by subst e; exact ⟨p, pm, xs, _, rfl, q, qm, m, MsAt.app r y⟩
theorem Ms.cnt_app : ∀ d e : Ms, (d.app e).cnt = d.cnt + e.cnt
  | .nil, e => by show e.cnt = 0 + e.cnt; omega
  | .one _ r, e => by show 1 + (r.app e).cnt = 1 + r.cnt + e.cnt; rw [Ms.cnt_app r e]; omega
  | .house _ m r, e => by show 1 + m.cnt + (r.app e).cnt = 1 + m.cnt + r.cnt + e.cnt; rw [Ms.cnt_app r e]; omega
theorem Ms.dep_app : ∀ d e : Ms, (d.app e).dep = max d.dep e.dep
  | .nil, e => by show e.dep = max 0 e.dep; omega
  | .one _ r, e => Ms.dep_app r e
  | .house _ m r, e => by show max (m.dep + 1) (r.app e).dep = max (max (m.dep + 1) r.dep) e.dep; rw [Ms.dep_app r e]; omega
/-- each one in it -/
def Ms.all (P : One → Prop) : Ms → Prop
  | .nil => True
  | .one o r => P o ∧ r.all P
  | .house _ m r => m.all P ∧ r.all P
theorem Ms.all_app {P : One → Prop} : ∀ {d e : Ms}, d.all P → e.all P → (d.app e).all P
  | .nil, _, _, y => y
  | .one _ _, _, ⟨a, b⟩, y => ⟨a, Ms.all_app b y⟩
  | .house _ _ _, _, ⟨a, b⟩, y => ⟨a, Ms.all_app b y⟩
def nmOk (nm : Str) : Prop := (nm.cps.toList.all fun c => decide (c < 16 ^ 8)) = true ∧ nm.cps.size ≤ 10
def Ms.nms : Ms → Prop
  | .nil => True
  | .one _ r => r.nms
  | .house nm m r => nmOk nm ∧ m.nms ∧ r.nms
theorem Ms.nms_app : ∀ {d e : Ms}, d.nms → e.nms → (d.app e).nms
  | .nil, _, _, y => y
  | .one _ r, _, a, y => Ms.nms_app (d := r) a y
  | .house _ _ _, _, ⟨n, a, b⟩, y => ⟨n, a, Ms.nms_app b y⟩
def Ms.tl : Ms → Ms
  | .nil => .nil
  | .one _ r => r
  | .house _ _ r => r
def Ms.hd : Ms → Option Mk
  | .nil => none
  | .one o _ => some (.one o)
  | .house nm m _ => some (.house nm m)
def Ms.drop : Nat → Ms → Ms
  | 0, d => d
  | n + 1, d => (d.drop n).tl
theorem MsAt.tl {K : PySem.W.Frag} {H : Hp} : ∀ {d : Ms} {vs : List V}, MsAt K H d vs → MsAt K H d.tl (vs.drop 1)
  | .nil, _, e => by subst e; rfl
  | .one _ _, _, ⟨v, us, e, q, r⟩ => by subst e; exact r
  | .house _ _ _, _, ⟨p, pm, xs, us, e, q, qm, m, r⟩ => by subst e; exact r
theorem MsAt.drop {K : PySem.W.Frag} {H : Hp} {d : Ms} {vs : List V} (h : MsAt K H d vs) : ∀ n, MsAt K H (d.drop n) (vs.drop n)
  | 0 => h
  | n + 1 => by
    have := (MsAt.drop h n).tl
    rw [List.drop_drop] at this
    exact this
theorem MsAt.head {K : PySem.W.Frag} {H : Hp} : ∀ {d : Ms} {v : V} {us : List V}, MsAt K H d (v :: us) → ∃ k, d.hd = some k ∧ MkAt K H k v
  | .one o _, _, _, ⟨v, us, e, q, r⟩ => by cases e; exact ⟨.one o, rfl, q⟩
  | .house nm m _, _, _, ⟨p, pm, xs, us, e, q, qm, mm, r⟩ => by cases e; exact ⟨.house nm m, rfl, p, pm, xs, rfl, q, qm, mm⟩
theorem MsAt.nth {K : PySem.W.Frag} {H : Hp} {d : Ms} {vs : List V} {i : Nat} {v : V} (h : MsAt K H d vs) (hi : vs[i]? = some v) : ∃ k, (d.drop i).hd = some k ∧ MkAt K H k v := by
  have hil := (List.getElem?_eq_some_iff.mp hi).1
  have hd := h.drop i
  rw [List.drop_eq_getElem_cons hil, (List.getElem?_eq_some_iff.mp hi).2] at hd
  exact hd.head
theorem Ms.dep_tl : ∀ d : Ms, d.tl.dep ≤ d.dep
  | .nil => Nat.le_refl _
  | .one _ r => Nat.le_refl _
  | .house _ m r => by show r.dep ≤ max (m.dep + 1) r.dep; omega
theorem Ms.dep_drop (d : Ms) : ∀ n, (d.drop n).dep ≤ d.dep
  | 0 => Nat.le_refl _
  | n + 1 => Nat.le_trans (Ms.dep_tl _) (Ms.dep_drop d n)
theorem Ms.cnt_tl : ∀ d : Ms, d.tl.cnt ≤ d.cnt
  | .nil => Nat.le_refl _
  | .one _ r => by show r.cnt ≤ 1 + r.cnt; omega
  | .house _ m r => by show r.cnt ≤ 1 + m.cnt + r.cnt; omega
theorem Ms.cnt_drop (d : Ms) : ∀ n, (d.drop n).cnt ≤ d.cnt
  | 0 => Nat.le_refl _
  | n + 1 => Nat.le_trans (Ms.cnt_tl _) (Ms.cnt_drop d n)
/-- a house ahead lies deeper, is smaller -/
theorem Ms.hd_house {d : Ms} {nm : Str} {m : Ms} (h : d.hd = some (.house nm m)) : m.dep + 1 ≤ d.dep ∧ m.cnt + 1 ≤ d.cnt := by
  cases d with
  | nil => cases h
  | one o r => cases h
  | house n2 m2 r =>
    cases h
    exact ⟨by show m.dep + 1 ≤ max (m.dep + 1) r.dep; omega, by show m.cnt + 1 ≤ 1 + m.cnt + r.cnt; omega⟩
/-! ### all that stand, with their paths -/
def stdI : Ms → List Int → Int → List (List Int × Mk)
  | .nil, _, _ => []
  | .one o r, path, i => (path ++ [i], .one o) :: stdI r path (i + 1)
  | .house nm m r, path, i => (path ++ [i], .house nm m) :: (stdI m (path ++ [i]) 0 ++ stdI r path (i + 1))
def stdH : Option Mk → List Int → Int → List (List Int × Mk)
  | none, _, _ => []
  | some (.one o), path, i => [(path ++ [i], .one o)]
  | some (.house nm m), path, i => (path ++ [i], .house nm m) :: stdI m (path ++ [i]) 0
theorem stdI_step : ∀ (d : Ms) (path : List Int) (i : Int), stdI d path i = stdH d.hd path i ++ stdI d.tl path (i + 1)
  | .nil, _, _ => rfl
  | .one _ _, _, _ => rfl
  | .house _ _ _, _, _ => rfl
theorem stdI_len : ∀ (d : Ms) (path : List Int) (i : Int), (stdI d path i).length = d.cnt
  | .nil, _, _ => rfl
  | .one _ r, path, i => by show (stdI r path (i + 1)).length + 1 = 1 + r.cnt; rw [stdI_len r]; omega
  | .house _ m r, path, i => by show (stdI m (path ++ [i]) 0 ++ stdI r path (i + 1)).length + 1 = 1 + m.cnt + r.cnt; rw [List.length_append, stdI_len m, stdI_len r]; omega
def PrAt (K : PySem.W.Frag) (H : Hp) (x : List Int × Mk) (u : V) : Prop := ∃ (t h : Addr) (v : V), u = .ref t ∧ SqT K H t [.ref h, v] ∧ SqT K H h (x.1.map V.int) ∧ MkAt K H x.2 v
theorem PrAt.imp {K : PySem.W.Frag} {H H' : Hp} (h : ∀ p xs, SqT K H p xs → SqT K H' p xs) {x : List Int × Mk} {u : V} (y : PrAt K H x u) : PrAt K H' x u := by
  obtain ⟨t, q, v, e, a, b, c⟩ := y
  exact ⟨t, q, v, e, h _ _ a, h _ _ b, c.imp h⟩
def PrsAt (K : PySem.W.Frag) (H : Hp) : List V → List (List Int × Mk) → Prop
  | [], [] => True
  | u :: us, x :: xs => PrAt K H x u ∧ PrsAt K H us xs
  | _, _ => False
theorem PrsAt.imp {K : PySem.W.Frag} {H H' : Hp} (h : ∀ p xs, SqT K H p xs → SqT K H' p xs) : ∀ {us : List V} {xs : List (List Int × Mk)}, PrsAt K H us xs → PrsAt K H' us xs
  | [], [], _ => trivial
  | _ :: _, _ :: _, ⟨x, r⟩ => ⟨x.imp h, PrsAt.imp h r⟩
theorem PrsAt.app {K : PySem.W.Frag} {H : Hp} : ∀ {us ws : List V} {xs ys : List (List Int × Mk)}, PrsAt K H us xs → PrsAt K H ws ys → PrsAt K H (us ++ ws) (xs ++ ys)
  | [], _, [], _, _, y => y
  | _ :: _, _, _ :: _, _, ⟨x, r⟩, y => ⟨x, PrsAt.app r y⟩
theorem PrsAt.len {K : PySem.W.Frag} {H : Hp} : ∀ {us : List V} {xs : List (List Int × Mk)}, PrsAt K H us xs → us.length = xs.length
  | [], [], _ => rfl
  | _ :: _, _ :: _, ⟨_, r⟩ => by rw [List.length_cons, List.length_cons, r.len]
theorem PrsAt.get {K : PySem.W.Frag} {H : Hp} : ∀ {us : List V} {xs : List (List Int × Mk)} {i : Nat} {u : V}, PrsAt K H us xs → us[i]? = some u → ∃ x, xs[i]? = some x ∧ PrAt K H x u
  | [], [], _, _, _, h => by simp at h
  | v :: us, x :: xs, 0, u, ⟨y, r⟩, h => by
    have : v = u := Option.some.inj h
    subst this
    exact ⟨x, rfl, y⟩
  | v :: us, x :: xs, i + 1, u, ⟨y, r⟩, h => PrsAt.get (i := i) r h
def prD (x : List Int × Mk) : PyData := .tuple [.tuple (x.1.map PyData.int), mkD x.2]
theorem PrAt.dp {K : PySem.W.Frag} {H : Hp} {x : List Int × Mk} {u : V} (y : PrAt K H x u) : Dp K H u (prD x) := by
  obtain ⟨t, q, v, e, a, b, c⟩ := y
  subst e
  exact .tup a (.cons (.tup b (dp_ints _)) (.cons c.dp .nil))
theorem PrsAt.dps {K : PySem.W.Frag} {H : Hp} : ∀ {us : List V} {xs : List (List Int × Mk)}, PrsAt K H us xs → DpAll K H us (xs.map prD)
  | [], [], _ => .nil
  | _ :: _, _ :: _, ⟨x, r⟩ => .cons x.dp r.dps
def isOne (x : List Int × Mk) : Bool := match x.2 with
  | .one _ => true
  | .house _ _ => false
def toOne (x : List Int × Mk) : Option One := match x.2 with
  | .one o => some o
  | .house _ _ => none
def onesI (m : Ms) : List (List Int × Mk) := (stdI m [] 0).filter isOne
def aoI : Ms → List One
  | .nil => []
  | .one o r => o :: aoI r
  | .house _ m r => aoI m ++ aoI r
theorem ao_std : ∀ (d : Ms) (path : List Int) (i : Int), ((stdI d path i).filter isOne).filterMap toOne = aoI d
  | .nil, _, _ => rfl
  | .one o r, path, i => by
    show (((path ++ [i], Mk.one o) :: stdI r path (i + 1)).filter isOne).filterMap toOne = o :: aoI r
    rw [List.filter_cons_of_pos (by rfl), List.filterMap_cons_some (b := o) (by rfl), ao_std r]
  | .house nm m r, path, i => by
    show (((path ++ [i], Mk.house nm m) :: (stdI m (path ++ [i]) 0 ++ stdI r path (i + 1))).filter isOne).filterMap toOne = aoI m ++ aoI r
    rw [List.filter_cons_of_neg (by intro h; cases h), List.filter_append, List.filterMap_append, ao_std m, ao_std r]
theorem ones_map : ∀ {xs : List (List Int × Mk)}, (∀ x ∈ xs, isOne x = true) → (xs.filterMap toOne).length = xs.length
  | [], _ => rfl
  | (p, .one o) :: r, h => by
    rw [List.filterMap_cons_some (b := o) (by rfl), List.length_cons, List.length_cons, ones_map fun x hx => h x (List.mem_cons_of_mem _ hx)]
  | (p, .house nm m) :: r, h => by
    have := h (p, .house nm m) (by simp)
    cases this
theorem ones_len (m : Ms) : (onesI m).length = (aoI m).length := by
  have h := ones_map (xs := onesI m) fun x hx => (List.mem_filter.mp hx).2
  rw [← h]
  unfold onesI
  rw [ao_std]
def motesI (m : Ms) : Int := ((aoI m).map (·.motes)).sum
theorem ao_len : ∀ d : Ms, (aoI d).length ≤ d.cnt
  | .nil => Nat.le_refl _
  | .one _ r => by have := ao_len r; show (aoI r).length + 1 ≤ 1 + r.cnt; omega
  | .house _ m r => by have := ao_len m; have := ao_len r; show (aoI m ++ aoI r).length ≤ 1 + m.cnt + r.cnt; rw [List.length_append]; omega
theorem ao_all {P : One → Prop} : ∀ {d : Ms}, d.all P → ∀ o ∈ aoI d, P o
  | .nil, _, o, h => by cases h
  | .one _ r, ⟨a, b⟩, o, h => by
    rcases List.mem_cons.mp h with rfl | h
    · exact a
    · exact ao_all b o h
  | .house _ m r, ⟨a, b⟩, o, h => by
    rcases List.mem_append.mp h with h | h
    · exact ao_all a o h
    · exact ao_all b o h
theorem ao_app : ∀ d e : Ms, aoI (d.app e) = aoI d ++ aoI e
  | .nil, e => rfl
  | .one o r, e => by show o :: aoI (r.app e) = o :: (aoI r ++ aoI e); rw [ao_app r e]
  | .house _ m r, e => by show aoI m ++ aoI (r.app e) = aoI m ++ aoI r ++ aoI e; rw [ao_app r e, List.append_assoc]
/-! ### promises -/
def spStands (K : PySem.W.Frag) (n : Nat) : Sp := fun vs H Q _ => ∃ (p q : Addr) (xs : List V) (m : Ms) (path : List Int), vs = [.ref p, .ref q] ∧ SqT K H p xs ∧ MsAt K H m xs ∧ m.dep < n ∧ m.cnt ≤ 300 ∧ SqT K H q (path.map V.int) ∧ path.length + m.dep ≤ 100 ∧
  ∀ H' l us, Same H H' → H l = none → H' l = some (.lst us) → PrsAt K H' us (stdI m path 0) → Q (.ref l) H'
def spOnes (K : PySem.W.Frag) (n : Nat) : Sp := fun vs H Q _ => ∃ (p pm : Addr) (xs : List V) (many : Int) (m : Ms), vs = [.ref p] ∧ SqT K H p [.int many, .ref pm] ∧ SqT K H pm xs ∧ MsAt K H m xs ∧ m.dep < n ∧ m.cnt ≤ 300 ∧ m.dep ≤ 50 ∧
  ∀ H' t us, Same H H' → SqT K H' t us → PrsAt K H' us (onesI m) → Q (.ref t) H'
def spMotes (K : PySem.W.Frag) (n : Nat) : Sp := fun vs H Q _ => ∃ (p pm : Addr) (xs : List V) (many : Int) (m : Ms), vs = [.ref p] ∧ SqT K H p [.int many, .ref pm] ∧ SqT K H pm xs ∧ MsAt K H m xs ∧ m.dep < n ∧ m.cnt ≤ 300 ∧ m.dep ≤ 50 ∧
  ∀ H', Same H H' → Q (.int (motesI m)) H'
end NG

namespace NG
open PySem PySem.Spec PyProof.Rows L2
theorem reprK {X : Cx} (K : PySem.W.Frag) (hg : X.A.guards = some []) (hu : X.A.units + 64 < cLine) (h : X.K = K := by rfl) : CallR X (.builtin "repr") (rRepr K) := by
  subst h
  exact cr_repr hg hu
/-! ### what is shown of members -/
theorem shh_list {α : Type} {f : α → PyData} {w k : Nat} : ∀ {xs : List α}, (∀ x ∈ xs, Shh (f x) w k) → ShhAll (xs.map f) ((w + 1) * xs.length) k
  | [], _ => ShhAll.nil
  | n :: r, h => by
    have h1 := h n (by simp)
    have h2 := shh_list (xs := r) fun x hx => h x (List.mem_cons_of_mem _ hx)
    refine (ShhAll.cons h1 h2 (Nat.le_refl k) (Nat.le_refl k)).mono ?_ (Nat.le_refl k)
    rw [List.length_cons, Nat.mul_add]
    omega
theorem shh_ms {many dE dD cD : Nat} (hm : many ≤ 3) (hE : dE ≤ 8) (hD : dD ≤ 8) : ∀ {m : Ms}, m.all (OneOk many dE dD cD) → m.nms → ShhAll (msD m) ((700 + 3 * wgt dE + 180 * cD) * m.cnt) (22 + 2 * m.dep)
  | .nil, _, _ => ShhAll.nil
  | .one o r, a, n => by
    have h1 := shh_one hm hE hD a.1
    have h2 := shh_ms hm hE hD (m := r) a.2 n
    refine (ShhAll.cons h1 h2 (k := 22 + 2 * r.dep) (by omega) (Nat.le_refl _)).mono ?_ (Nat.le_refl _)
    show _ ≤ (700 + 3 * wgt dE + 180 * cD) * (1 + r.cnt)
    rw [Nat.mul_add, Nat.mul_one]
    omega
  | .house nm m r, a, n => by
    have h1 := (shh_ms hm hE hD (m := m) a.1 n.2.1).tup
    have h2 := shh_ms hm hE hD (m := r) a.2 n.2.2
    have s1 : Shh (.str "house") 10 0 := .str (by decide) (by decide)
    have s2 : Shh (.str nm) 10 0 := .str n.1.1 n.1.2
    have h3 := (ShhAll.cons s1 (.cons s2 (.cons h1 (ShhAll.nil (k := 0)) (k := 23 + 2 * m.dep) (by omega) (by omega)) (by omega) (Nat.le_refl _)) (by omega) (Nat.le_refl _)).tup
    refine (ShhAll.cons h3 h2 (k := 22 + 2 * max (m.dep + 1) r.dep) (by omega) (by omega)).mono ?_ (Nat.le_refl _)
    show _ ≤ (700 + 3 * wgt dE + 180 * cD) * (1 + m.cnt + r.cnt)
    rw [Nat.mul_add, Nat.mul_add, Nat.mul_one]
    omega
theorem std_path : ∀ (d : Ms) (path : List Int) (i : Int), 0 ≤ i → i + (d.cnt : Int) ≤ 300 → ∀ x ∈ stdI d path i, x.1.length ≤ path.length + d.dep + 1 ∧ ∀ e ∈ x.1, e ∈ path ∨ (0 ≤ e ∧ e ≤ 300)
  | .nil, _, _, _, _, x, h => by cases h
  | .one o r, path, i, i0, i1, x, h => by
    have i1 : i + ((1 + r.cnt : Nat) : Int) ≤ 300 := i1
    have h : x ∈ (path ++ [i], Mk.one o) :: stdI r path (i + 1) := h
    rcases List.mem_cons.mp h with rfl | h
    · refine ⟨by rw [List.length_append]; show path.length + 1 ≤ _; omega, fun e he => ?_⟩
      rcases List.mem_append.mp he with he | he
      · exact .inl he
      · rw [List.mem_singleton.mp he]
        exact .inr ⟨i0, by omega⟩
    · exact std_path r path (i + 1) (by omega) (by omega) x h
  | .house nm m r, path, i, i0, i1, x, h => by
    have i1 : i + ((1 + m.cnt + r.cnt : Nat) : Int) ≤ 300 := i1
    have h : x ∈ (path ++ [i], Mk.house nm m) :: (stdI m (path ++ [i]) 0 ++ stdI r path (i + 1)) := h
    show x.1.length ≤ path.length + max (m.dep + 1) r.dep + 1 ∧ _
    rcases List.mem_cons.mp h with rfl | h
    · refine ⟨by rw [List.length_append]; show path.length + 1 ≤ _; omega, fun e he => ?_⟩
      rcases List.mem_append.mp he with he | he
      · exact .inl he
      · rw [List.mem_singleton.mp he]
        exact .inr ⟨i0, by omega⟩
    · rcases List.mem_append.mp h with h | h
      · obtain ⟨h1, h2⟩ := std_path m (path ++ [i]) 0 (by decide) (by omega) x h
        refine ⟨by rw [List.length_append] at h1; have h1 : x.1.length ≤ path.length + 1 + m.dep + 1 := h1; omega, fun e he => ?_⟩
        rcases h2 e he with he | he
        · rcases List.mem_append.mp he with he | he
          · exact .inl he
          · rw [List.mem_singleton.mp he]
            exact .inr ⟨i0, by omega⟩
        · exact .inr he
      · obtain ⟨h1, h2⟩ := std_path r path (i + 1) (by omega) (by omega) x h
        exact ⟨by omega, h2⟩
theorem std_all {P : One → Prop} : ∀ (d : Ms) (path : List Int) (i : Int), d.all P → ∀ x ∈ stdI d path i, ∀ o, x.2 = .one o → P o
  | .nil, _, _, _, x, h, _, _ => by cases h
  | .one o r, path, i, a, x, h, o2, e => by
    have h : x ∈ (path ++ [i], Mk.one o) :: stdI r path (i + 1) := h
    rcases List.mem_cons.mp h with rfl | h
    · cases e
      exact a.1
    · exact std_all r path (i + 1) a.2 x h o2 e
  | .house nm m r, path, i, a, x, h, o2, e => by
    have h : x ∈ (path ++ [i], Mk.house nm m) :: (stdI m (path ++ [i]) 0 ++ stdI r path (i + 1)) := h
    rcases List.mem_cons.mp h with rfl | h
    · cases e
    · rcases List.mem_append.mp h with h | h
      · exact std_all m (path ++ [i]) 0 a.1 x h o2 e
      · exact std_all r path (i + 1) a.2 x h o2 e
theorem std_house : ∀ (d : Ms) (path : List Int) (i : Int), ∀ x ∈ stdI d path i, ∀ nm m2, x.2 = .house nm m2 → m2.dep + 1 ≤ d.dep ∧ m2.cnt + 1 ≤ d.cnt
  | .nil, _, _, x, h, _, _, _ => by cases h
  | .one o r, path, i, x, h, nm, m2, e => by
    have h : x ∈ (path ++ [i], Mk.one o) :: stdI r path (i + 1) := h
    rcases List.mem_cons.mp h with rfl | h
    · cases e
    · obtain ⟨h1, h2⟩ := std_house r path (i + 1) x h nm m2 e
      exact ⟨h1, by show m2.cnt + 1 ≤ 1 + r.cnt; omega⟩
  | .house nm m r, path, i, x, h, nm2, m2, e => by
    have h : x ∈ (path ++ [i], Mk.house nm m) :: (stdI m (path ++ [i]) 0 ++ stdI r path (i + 1)) := h
    show m2.dep + 1 ≤ max (m.dep + 1) r.dep ∧ m2.cnt + 1 ≤ 1 + m.cnt + r.cnt
    rcases List.mem_cons.mp h with rfl | h
    · cases e
      exact ⟨by omega, by omega⟩
    · rcases List.mem_append.mp h with h | h
      · obtain ⟨h1, h2⟩ := std_house m (path ++ [i]) 0 x h nm2 m2 e
        exact ⟨by omega, by omega⟩
      · obtain ⟨h1, h2⟩ := std_house r path (i + 1) x h nm2 m2 e
        exact ⟨by omega, by omega⟩
/-- a pair of a path and a one, as shown -/
theorem shh_pr {many dE dD cD : Nat} {m : Ms} (hm : many ≤ 3) (hE : dE ≤ 8) (hD : dD ≤ 8) (a : m.all (OneOk many dE dD cD)) (hc : m.cnt ≤ 300) (hd : m.dep ≤ 20) : ∀ x ∈ onesI m, ∃ o, x.2 = .one o ∧ OneOk many dE dD cD o ∧ Shh (prD x) (1000 + 3 * wgt dE + 180 * cD) 23 := fun x hx => by
  obtain ⟨h1, h2⟩ := List.mem_filter.mp hx
  obtain ⟨p1, p2⟩ := std_path m [] 0 (by decide) (by omega) x h1
  obtain ⟨pth, k⟩ := x
  cases k with
  | house nm m2 => cases h2
  | one o =>
    have ho := std_all m [] 0 a _ h1 o rfl
    refine ⟨o, rfl, ho, ?_⟩
    have hb : ∀ e ∈ pth, -1000 ≤ e ∧ e ≤ 1000 := fun e he => by
      rcases p2 e he with z | z
      · cases z
      · omega
    have s1 : Shh (.tuple (pth.map PyData.int)) (16 * pth.length) 1 := ((shw_smalls hb).tup).hh (lf_list fun e he => int60 (by have := hb e he; omega))
    have s2 := shh_one hm hE hD ho
    have pl : pth.length ≤ 21 := by
      have p1 : pth.length ≤ 0 + m.dep + 1 := p1
      omega
    exact ((ShhAll.cons s1 (.cons s2 (ShhAll.nil (k := 0)) (k := 22) (by omega) (by omega)) (by omega) (Nat.le_refl _)).tup).mono (by omega) (by omega)
theorem shh_ones {many dE dD cD : Nat} {m : Ms} (hm : many ≤ 3) (hE : dE ≤ 8) (hD : dD ≤ 8) (a : m.all (OneOk many dE dD cD)) (hc : m.cnt ≤ 300) (hd : m.dep ≤ 20) : Shh (.tuple ((onesI m).map prD)) ((1001 + 3 * wgt dE + 180 * cD) * m.cnt) 24 := by
  have h := shh_list (f := prD) (xs := onesI m) (w := 1000 + 3 * wgt dE + 180 * cD) (k := 23) fun x hx => by
    obtain ⟨o, _, _, h⟩ := shh_pr hm hE hD a hc hd x hx
    exact h
  refine h.tup.mono (Nat.mul_le_mul (by omega) ?_) (by decide)
  rw [ones_len]
  exact ao_len m
theorem motes_bnd {many dE dD cD : Nat} {m : Ms} (a : m.all (OneOk many dE dD cD)) (hc : m.cnt ≤ 300) : (motesI m).natAbs.log2 < 1920 := by
  have h0 : ∀ x ∈ (aoI m).map One.motes, 0 ≤ x ∧ x ≤ 3000000000000 := fun x hx => by
    obtain ⟨o, ho, rfl⟩ := List.mem_map.mp hx
    exact (ao_all a o ho).m1
  have h1 := sum_nonneg (ms := (aoI m).map One.motes) fun x hx => (h0 x hx).1
  have h2 := sum_le (B := 3000000000000) (ms := (aoI m).map One.motes) fun x hx => (h0 x hx).2
  rw [List.length_map] at h2
  have h3 := ao_len m
  have h4 : ((aoI m).length : Int) * 3000000000000 ≤ 300 * 3000000000000 := Int.mul_le_mul_of_nonneg_right (by omega) (by decide)
  have h5 : (motesI m).natAbs < 2 ^ 60 := by
    show (((aoI m).map One.motes).sum).natAbs < 2 ^ 60
    omega
  have := PySem.Flt.log2_lt_of (k := 60) (by decide) h5
  omega
theorem w3 : wgt 3 = 420 := rfl
theorem shh_house {many : Nat} {m : Ms} (hm : many ≤ 3) (a : m.all (OneOk many 3 2 10)) (n : m.nms) (hc : m.cnt ≤ 40) (hd : m.dep ≤ 6) : Shh (.tuple [.int (many : Int), .tuple (msD m)]) 200000 60 := by
  have h1 := (shh_ms hm (by decide) (by decide) a n).tup
  rw [w3] at h1
  have h2 : Shh (.int (many : Int)) 60 0 := .int (by omega)
  have h3 := (ShhAll.cons h2 (.cons h1 (ShhAll.nil (k := 0)) (k := 35) (by omega) (by omega)) (by omega) (Nat.le_refl _)).tup
  exact h3.mono (by omega) (by omega)
theorem shh_ones' {many : Nat} {m : Ms} (hm : many ≤ 3) (a : m.all (OneOk many 3 2 10)) (hc : m.cnt ≤ 40) (hd : m.dep ≤ 6) : Shh (.tuple ((onesI m).map prD)) 200000 60 := by
  have h := shh_ones hm (by decide) (by decide) a (by omega) (by omega)
  rw [w3] at h
  exact h.mono (by omega) (by omega)
theorem shh_one' {many : Nat} {o : One} (hm : many ≤ 3) (a : OneOk many 3 2 10 o) : Shh (oneD o) 200000 60 := by
  have h := shh_one hm (by decide) (by decide) a
  rw [w3] at h
  exact h.mono (by omega) (by omega)
def ofOnes : List One → Ms
  | [] => .nil
  | o :: r => .one o (ofOnes r)
theorem ofOnes_cnt : ∀ os, (ofOnes os).cnt = os.length
  | [] => rfl
  | o :: r => by show 1 + (ofOnes r).cnt = r.length + 1; rw [ofOnes_cnt r]; omega
theorem ofOnes_dep : ∀ os, (ofOnes os).dep = 0
  | [] => rfl
  | o :: r => ofOnes_dep r
theorem ofOnes_nms : ∀ os, (ofOnes os).nms
  | [] => trivial
  | o :: r => ofOnes_nms r
theorem ofOnes_all {P : One → Prop} : ∀ {os : List One}, (∀ o ∈ os, P o) → (ofOnes os).all P
  | [], _ => trivial
  | o :: r, h => ⟨h o (by simp), ofOnes_all fun x hx => h x (List.mem_cons_of_mem _ hx)⟩
end NG

namespace NG
open PySem PySem.Spec PyProof.Rows L2
/-! ### xs[i] read ahead of xs[i] += .. -/
theorem get_neg {X : Cx} : PGet X (fun o i H Q => ∃ (p : Addr) (xs : List V) (k : Int) (z : V), o = .ref p ∧ i = .int k ∧ k < 0 ∧ SqL X.K H p xs ∧ atI xs k = some z ∧ Q z H) := by
  intro pins s σ H o i ov iv Q I ro ri h
  obtain ⟨p, xs, k, z, rfl, rfl, hk, hq, he, q⟩ := h
  cases ro
  obtain ⟨t, rfl⟩ := ri
  obtain ⟨its, r, pl, hz⟩ := I.list hq
  obtain ⟨j, h1, h2, h3, h4, h5⟩ := atI_get he
  obtain ⟨w, ew, rw'⟩ := r.get h2
  have hl := r.length
  have hn := line63
  have hj : (k + (its.toArray.size : Int)).toNat = j := by
    rw [seqIndex_neg (by omega) h4] at h1
    rw [List.size_toArray, ← hl]
    exact Option.some.inj h1
  exact wpAny_getItem_list_neg pl.isList hk (by rw [List.size_toArray]; omega) (by omega) (by rw [hj]; simpa using ew) ⟨z, H, I, rw', q⟩
theorem slAK {X : Cx} (K : PySem.W.Frag) (h : X.K = K := by rfl) : SlR X (rSlA K) := by
  subst h
  exact sl_tupA
theorem catAK {X : Cx} (K : PySem.W.Frag) (h : X.K = K := by rfl) : OpR X (binaryOp .Add) (rCatA K) := by
  subst h
  exact op_catA
theorem pilK {X : Cx} (K : PySem.W.Frag) {tg l : Expr} {tl : TE} (hl : PE X l tl) (h : X.K = K := by rfl) : PI X tg l (iList K tl) := by
  subst h
  exact pi_list hl
theorem pitK {X : Cx} (K : PySem.W.Frag) {tg l : Expr} {tl : TE} (hl : PE X l tl) (h : X.K = K := by rfl) : PI X tg l (iTup K tl) := by
  subst h
  exact pi_tup hl
end NG

namespace NG
open PySem PySem.Spec PyProof.Rows L2
/-! ### zip of a tuple with a list -/
def ItTL (K : PySem.W.Frag) (a b : Addr) : It :=
  ⟨fun i H => ∃ (us ws : List V) (u v : V), SqT K H a us ∧ SqL K H b ws ∧ us[i]? = some u ∧ ws[i]? = some v,
   fun i H r H' => ∃ (T : Addr) (u v : V), r = .ref T ∧ H T = none ∧ H' = upd H T (.tup [u, v]) ∧ (∀ us, SqT K H a us → us[i]? = some u) ∧ ∀ ws, SqL K H b ws → ws[i]? = some v,
   fun i H => ∃ us ws : List V, SqT K H a us ∧ SqL K H b ws ∧ us.length = i ∧ ws.length = i⟩
theorem turn_TL {P : Program} {w : World} {K : PySem.W.Frag} {es : List Expr} {k : Nat} {ps : Pos} {a b z TI TO i1 i2 : Addr} (S : ZipSep2 z TI TO i1 i2 [i1, a] [i2, b]) (na : a ≠ i1) (nb : b ≠ i2) :
    Turn P w K (.Tuple es k ps) (ItTL K a b) [z, TI, TO, i1, i2] z (fun i h => IsZip h z TI TO .none ∧ IsTupOf2 h TI (.ref i1) (.ref i2) ∧ (∃ c d, IsTupOf2 h TO c d) ∧ h.IsTupleIter i1 a i ∧ h.IsListIter i2 b i) := by
  have five : ∀ {c : Addr}, c ∈ [z, TI, TO, i1, i2] → c = z ∨ c = TI ∨ c = TO ∨ c = i1 ∨ c = i2 := fun h => by simpa using h
  have lives : ∀ (i : Nat) (h : Heap), (IsZip h z TI TO .none ∧ IsTupOf2 h TI (.ref i1) (.ref i2) ∧ (∃ c d, IsTupOf2 h TO c d) ∧ h.IsTupleIter i1 a i ∧ h.IsListIter i2 b i) → ∀ c ∈ [z, TI, TO, i1, i2], ∃ o, h.get? c = some o ∧ ∀ v, o.data ≠ .cell v := fun i h st c hc => by
    obtain ⟨s1, s2, ⟨x, y, s3⟩, ⟨o4, s4, _, d4⟩, ⟨o5, s5, _, d5⟩⟩ := st
    rcases five hc with rfl | rfl | rfl | rfl | rfl
    · exact ⟨_, s1, fun v q => nomatch q⟩
    · exact ⟨_, s2, fun v q => nomatch q⟩
    · exact ⟨_, s3, fun v q => nomatch q⟩
    · exact ⟨o4, s4, fun v q => by rw [d4] at q; exact nomatch q⟩
    · exact ⟨o5, s5, fun v q => by rw [d5] at q; exact nomatch q⟩
  refine ⟨List.mem_cons_self, lives, fun i h h' st kp => ?_, fun X eP ew eK hc i pins s σ H E I hf st hg => ?_, fun X eP ew eK hc i pins s σ H E I hf st hg => ?_, fun A i s Q E st q => wpAny_pyIter_zip st.1 q⟩
  · obtain ⟨s1, s2, ⟨x, y, s3⟩, s4, s5⟩ := st
    exact ⟨kp _ (by simp) _ s1, kp _ (by simp) _ s2, ⟨x, y, kp _ (by simp) _ s3⟩, s4.at fun o q => kp _ (by simp) o q, s5.at fun o q => kp _ (by simp) o q⟩
  · cases eP
    cases ew
    cases eK
    have lv := lives i _ st
    obtain ⟨s1, s2, s3, s4, s5⟩ := st
    obtain ⟨us, ws, u, v, qa, qb, hu, hv⟩ := hg
    obtain ⟨la, ra, pa, _⟩ := I.tuple qa
    obtain ⟨lb, rb, pb, _⟩ := I.list qb
    obtain ⟨u', eu, ru⟩ := ra.get hu
    obtain ⟨v', ev', rv⟩ := rb.get hv
    have W := WalksT.zipD2 (A := X.A) S (Draws.tuple (A := X.A.in1) (I.ok.hd hc) i1 a na la.toArray) (Draws.list (prog := X.prog) (w := X.w) (A := X.A.in1) (I.ok.hd hc) i2 b nb lb.toArray)
    have il : i < la.length := (List.getElem?_eq_some_iff.mp eu).1
    have ir : i < lb.length := (List.getElem?_eq_some_iff.mp ev').1
    refine W.item i s _ E (by rw [List.size_toArray, List.size_toArray]; omega) ⟨s1, s2, s3, ⟨s4, pa⟩, ⟨s5, pb.isList⟩⟩ fun T vals h1 tk pv hT tT mid k1 => ⟨_, rfl, ?_⟩
    have apT := W.apart i T h1 mid
    refine W.go es k ps i T _ _ _ mid fun h2 st2 k2 => ?_
    obtain ⟨x1, x2, e1, e2, rfl⟩ := pv
    have f1 : x1 = u' := by
      have := e1.symm.trans (show la.toArray[i]? = some u' by simpa using eu)
      exact Option.some.inj this
    have f2 : x2 = v' := by
      have := e2.symm.trans (show lb.toArray[i]? = some v' by simpa using ev')
      exact Option.some.inj this
    subst f1 f2
    obtain ⟨z1, z2, z3, ⟨z4, _⟩, ⟨z5, _⟩⟩ := st2
    have tT2 : h2.IsTuple T #[x1, x2] := tT.at fun o e => k2 T o apT e
    have in5 : ∀ c, c ∉ [z, TI, TO, i1, i2] → c ∉ [z, TO, i1, i2] := fun c h m => h (by
      rcases (by simpa using m : c = z ∨ c = TO ∨ c = i1 ∨ c = i2) with rfl | rfl | rfl | rfl <;> simp)
    have J := I.turnedNew (h' := h2) (t' := tk) (ch := [z, TI, TO, i1, i2]) (T := T) (ob := .tup [u, v]) (fun c o hb' q => k2 c o (in5 c hb') (k1 c o (in5 c hb') q)) hf hT ⟨(by show 2 ≤ sizeLine; decide), [x1, x2], .cons ru (.cons rv .nil), tT2⟩
    refine ⟨.ref T, _, J, rfl, ⟨T, u, v, rfl, I.hok.fresh hT, rfl, fun l hl => ?_, fun l hl => ?_⟩, ⟨z1, z2, z3, z4, z5⟩, fun c hcm => ?_⟩
    · rw [I.tuple_inj hl qa]
      exact hu
    · rw [I.list_inj hl qb]
      exact hv
    · obtain ⟨o, ho, _⟩ := lv c hcm
      have lt := Heap.lt_size ho
      rw [upd_ne (Nat.ne_of_lt (Nat.lt_of_lt_of_le lt hT))]
      exact (hf c hcm).1
  · cases eP
    cases ew
    cases eK
    obtain ⟨s1, s2, s3, s4, s5⟩ := st
    obtain ⟨us, ws, qa, qb, e1, e2⟩ := hg
    obtain ⟨la, ra, pa, _⟩ := I.tuple qa
    obtain ⟨lb, rb, pb, _⟩ := I.list qb
    have W := WalksT.zipD2 (A := X.A) S (Draws.tuple (A := X.A.in1) (I.ok.hd hc) i1 a na la.toArray) (Draws.list (prog := X.prog) (w := X.w) (A := X.A.in1) (I.ok.hd hc) i2 b nb lb.toArray)
    have l1 := ra.length
    have l2 := rb.length
    have en : min la.toArray.size lb.toArray.size = i := by
      rw [List.size_toArray, List.size_toArray]
      omega
    rw [en] at W
    refine W.done s _ E ⟨s1, s2, s3, ⟨s4, pa⟩, ⟨s5, pb.isList⟩⟩ fun h1 tk k1 => ⟨rfl, ?_⟩
    exact I.turnedL (t' := tk) (ch := [z, TI, TO, i1, i2]) (fun c o hb' q => k1 c o (fun m => hb' (by rcases (by simpa using m : c = z ∨ c = TO ∨ c = i1 ∨ c = i2) with rfl | rfl | rfl | rfl <;> simp)) q) hf
def iZipTL (K : PySem.W.Frag) (ta : TA) : TI := fun σ H R => ta σ H fun vs H1 => ∃ a b us ws, vs = [.ref a, .ref b] ∧ SqT K H1 a us ∧ SqL K H1 b ws ∧ R (ItTL K a b) H1
theorem pi_zipTL {X : Cx} {e e2 : Expr} {ta : TA} {p pos tpos : Pos} {elts : List Expr} {kk : Nat} (hg : Gl X "zip") (hm : X.mg "zip" = none) (ha : PA X [e, e2] ta)
    (hs : starEach [e, e2] X.env = (false, eval e X.env) :: starEach [e2] X.env := by rfl) (hpl : (backTo pos (starEach [e2] X.env)).any (·.1) = false := by rfl) : PI X (.Tuple elts kk tpos) (.Call (.Name "zip" p) [e, e2] [] pos) (iZipTL X.K ta) := by
  refine ⟨fun pins s σ H R I h => Call_ (ld_blt I hg hm PyProof.Rows.boot_zip (PyProof.Rows.callWith_type1 (thn (ha.run pos pins s σ H _ I h) fun us s1 ⟨vs, H1, I1, r1, q1⟩ => ?_) hs hpl))⟩
  obtain ⟨a, b, ul, wl, rfl, qa, qb, q⟩ := q1
  obtain ⟨v1, v2, rfl, t1, t2⟩ := vals2 r1
  cases t1
  cases t2
  obtain ⟨la, ra, pa, _⟩ := I1.tuple qa
  obtain ⟨lb, rb, pb, _⟩ := I1.list qb
  obtain ⟨ob, hob, _⟩ := id pa
  have lt1 : a < s1.heap.objs.size := Heap.lt_size hob
  have lt2 : b < s1.heap.objs.size := pb.lt
  refine zip_begins2 (begins_tuple a la.toArray) (begins_list b lb.toArray) pa pb.isList fun h' hz hTI hTO g1 g2 hsz hk => wpAny_pyIter_zip hz ?_
  have J : Inv X pins σ H1 { s1 with heap := h' } := I1.kept (t' := s1.toks) hk
  have S := zip_sep2 (N := s1.heap.objs.size) (fp1 := [a]) (fp2 := [b]) (fun c hc => by rw [List.mem_singleton.mp hc]; exact lt1) (fun c hc => by rw [List.mem_singleton.mp hc]; exact lt2)
  refine ⟨_, _, _, _, H1, rfl, J, turn_TL S (Nat.ne_of_lt lt1) (Nat.ne_of_lt (Nat.lt_succ_of_lt lt2)), ⟨hz, hTI, ⟨_, _, hTO⟩, ⟨_, g1, rfl, rfl⟩, ⟨_, g2, rfl, rfl⟩⟩, fun c hcm => ?_, q⟩
  have le : s1.heap.objs.size ≤ c := by
    rcases (by simpa using hcm : c = s1.heap.objs.size + 4 ∨ c = s1.heap.objs.size + 2 ∨ c = s1.heap.objs.size + 3 ∨ c = s1.heap.objs.size ∨ c = s1.heap.objs.size + 1) with e | e | e | e | e <;> (rw [e]; first | exact Nat.le_refl _ | exact Nat.le_add_right _ _)
  exact I1.fpOk le (I1.hok.fresh le)
theorem walk_TL {K : PySem.W.Frag} {a b : Addr} {us ws : List V} {n : Nat} (hx : us.length = n) (hy : ws.length = n) : Walk (ItTL K a b) n (fun H => SqT K H a us ∧ SqL K H b ws) (YPair (fun i => us[i]?) (fun i => ws[i]?)) := by
  refine ⟨fun i H hi q => ⟨us, ws, us[i]'(by omega), ws[i]'(by omega), q.1, q.2, List.getElem?_eq_getElem _, List.getElem?_eq_getElem _⟩, fun H q => ⟨us, ws, q.1, q.2, hx, hy⟩, fun i H v H' hi q y => ?_⟩
  obtain ⟨T, x, z, h1, h2, h3, h4, h5⟩ := y
  exact ⟨T, x, z, h1, h2, h3, h4 us q.1, h5 ws q.2⟩
theorem tupK {X : Cx} (K : PySem.W.Frag) {a : Expr} {ta : TE} {p pos : Pos} (hg : Gl X "tuple") (hm : X.mg "tuple" = none) (ha : PE X a ta) (na : starEach [a] X.env = (false, eval a X.env) :: starEach [] X.env := by rfl) (h : X.K = K := by rfl) :
    PE X (.Call (.Name "tuple" p) [a] [] pos) (tThen ta (kTup K)) := by
  subst h
  exact pe_tupleOf hg hm ha na
/-! ### max of a tuple of ints -/
def rMaxT (K : PySem.W.Frag) : List V → Hp → VK → Prop := fun vs H Q => ∃ (a : Addr) (n : Int) (ns : List Int), vs = [V.ref a] ∧ SqT K H a ((n :: ns).map V.int) ∧ Q (.int (ns.foldl max n)) H
theorem depth_ints : ∀ ns : List Int, PyData.depthAll (ns.map PyData.int) = 0
  | [] => rfl
  | n :: r => by
    rw [List.map_cons]
    show max (PyData.depth (.int n)) (PyData.depthAll (r.map PyData.int)) = 0
    rw [depth_ints r]
    rfl
theorem cr_maxT {X : Cx} (hc : X.calm = true) (hu : X.A.units + 64 < cLine) : CallR X (.builtin "max") (rMaxT X.K) := by
  intro pins s σ H vs us Q I r h
  obtain ⟨a, n, ns, rfl, hs, q⟩ := h
  obtain ⟨its, rv, p, _⟩ := I.tuple hs
  rw [Vals.ref1 r]
  obtain ⟨as, hr⟩ := Dp.readsAll I ((n :: ns).map PyData.int) _ its (dp_ints (n :: ns)) rv
  rw [List.map_cons] at hr
  have al : PySem.W.AlikeAll (PyData.int n :: ns.map PyData.int) := ⟨fun x hx y hy => by
    rw [← List.map_cons (f := PyData.int)] at hx hy
    obtain ⟨i, _, rfl⟩ := List.mem_map.mp hx
    obtain ⟨j, _, rfl⟩ := List.mem_map.mp hy
    rfl, fun x hx => by
    rw [← List.map_cons (f := PyData.int)] at hx
    obtain ⟨i, _, rfl⟩ := List.mem_map.mp hx
    exact fun e => nomatch e⟩
  refine PySem.W.max_tuple_data (I.ok.hd hc) p (by simpa using hr) al (by rw [← List.map_cons (f := PyData.int), depth_ints]; omega) fun i v h' tk bs _ rd hk => ?_
  rw [PySem.W.maxD_ints] at rd
  cases rd
  exact ⟨.int _, H, I.kept hk, ⟨_, rfl⟩, q⟩
theorem foldl_max_spec : ∀ (ns : List Int) (n : Int), (n ≤ ns.foldl max n ∧ ∀ x ∈ ns, x ≤ ns.foldl max n) ∧ (ns.foldl max n = n ∨ ns.foldl max n ∈ ns)
  | [], n => ⟨⟨Int.le_refl _, fun _ h => absurd h (by simp)⟩, .inl rfl⟩
  | k :: r, n => by
    rw [List.foldl_cons]
    obtain ⟨⟨h1, h2⟩, h3⟩ := foldl_max_spec r (max n k)
    have e1 : n ≤ max n k := Int.le_max_left ..
    have e2 : k ≤ max n k := Int.le_max_right ..
    refine ⟨⟨Int.le_trans e1 h1, fun x hx => ?_⟩, ?_⟩
    · rcases List.mem_cons.mp hx with rfl | hx
      · exact Int.le_trans e2 h1
      · exact h2 x hx
    · rcases h3 with h3 | h3
      · rw [h3]
        by_cases c : n ≤ k
        · rw [Int.max_eq_right c]
          exact .inr (by simp)
        · rw [Int.max_eq_left (by omega)]
          exact .inl rfl
      · exact .inr (List.mem_cons_of_mem _ h3)
/-! ### gains -/
def dotI (ss ps : List Int) : Int := (List.zipWith (· * ·) ss ps).sum
def gainI (ss ps : List Int) (p : Int) : Int := ss.sum * p - dotI ss ps
def rightI (ss ps : List Int) (g : Int) : Bool := (List.zipWith (fun s p => (s == 0 || p == g)) ss ps).all id
theorem dot_lin (c d : Int) : ∀ ss ps : List Int, ss.length = ps.length → dotI ss (ps.map fun p => c * p - d) = c * dotI ss ps - d * ss.sum
  | [], [], _ => by simp [dotI]
  | s :: ss, p :: ps, h => by
    have ih := dot_lin c d ss ps (by simpa using h)
    unfold dotI at ih ⊢
    rw [List.map_cons, List.zipWith_cons_cons, List.zipWith_cons_cons, List.sum_cons, List.sum_cons, List.sum_cons, ih, Int.mul_add, Int.mul_add]
    have e1 : s * (c * p - d) = c * (s * p) - d * s := by rw [Int.mul_sub, Int.mul_left_comm, Int.mul_comm s d]
    omega
theorem gains_nought (ss ps : List Int) (h : ss.length = ps.length) : dotI ss (ps.map (gainI ss ps)) = 0 := by
  show dotI ss (ps.map fun p => ss.sum * p - dotI ss ps) = 0
  rw [dot_lin _ _ _ _ h, Int.mul_comm]
  omega
theorem dot_gap (g : Int) : ∀ ss ps : List Int, ss.length = ps.length → (∀ s ∈ ss, 0 ≤ s) → (∀ p ∈ ps, p ≤ g) → dotI ss ps ≤ ss.sum * g ∧ (dotI ss ps = ss.sum * g ↔ rightI ss ps g = true)
  | [], [], _, _, _ => by simp [dotI, rightI]
  | s :: ss, p :: ps, h, hs, hp => by
    obtain ⟨i1, i2⟩ := dot_gap g ss ps (by simpa using h) (fun x hx => hs x (List.mem_cons_of_mem _ hx)) (fun x hx => hp x (List.mem_cons_of_mem _ hx))
    have s0 := hs s (by simp)
    have p0 := hp p (by simp)
    have e : (List.zipWith (fun x1 x2 => x1 * x2) (s :: ss) (p :: ps)).sum = s * p + dotI ss ps := by
      rw [List.zipWith_cons_cons, List.sum_cons]
      rfl
    have er : rightI (s :: ss) (p :: ps) g = ((s == 0 || p == g) && rightI ss ps g) := rfl
    have m : s * p ≤ s * g := Int.mul_le_mul_of_nonneg_left p0 s0
    have es : (s :: ss).sum * g = s * g + ss.sum * g := by rw [List.sum_cons, Int.add_mul]
    have ed : dotI (s :: ss) (p :: ps) = s * p + dotI ss ps := e
    rw [es, ed, er]
    refine ⟨by omega, ?_⟩
    have eq : s * p = s * g ↔ (s == 0 || p == g) = true := by
      rw [Bool.or_eq_true, beq_iff_eq, beq_iff_eq]
      constructor
      · intro q
        by_cases z : s = 0
        · exact .inl z
        · exact .inr (Int.eq_of_mul_eq_mul_left z q)
      · rintro (rfl | rfl)
        · rw [Int.zero_mul, Int.zero_mul]
        · rfl
    rw [Bool.and_eq_true, ← i2, ← eq]
    omega
/-- who is right: just where the greatest gain is at most 0 -/
theorem right_iff {ss ps : List Int} {g m : Int} (h : ss.length = ps.length) (hs : ∀ s ∈ ss, 0 ≤ s) (h0 : 0 < ss.sum) (hg : g ∈ ps) (hp : ∀ p ∈ ps, p ≤ g) (hm : m ∈ ps.map (gainI ss ps)) (hx : ∀ y ∈ ps.map (gainI ss ps), y ≤ m) : rightI ss ps g = decide (m ≤ 0) := by
  obtain ⟨g1, g2⟩ := dot_gap g ss ps h hs hp
  obtain ⟨p, hpm, rfl⟩ := List.mem_map.mp hm
  have k1 := hx (gainI ss ps g) (List.mem_map_of_mem hg)
  have k2 : ss.sum * p ≤ ss.sum * g := Int.mul_le_mul_of_nonneg_left (hp p hpm) (Int.le_of_lt h0)
  unfold gainI at k1 ⊢
  rw [Bool.eq_iff_iff, ← g2, decide_eq_true_iff]
  constructor
  · intro e
    omega
  · intro e
    omega
end NG

namespace NG
open PySem PySem.Spec PyProof.Rows L2
/-! ### rough numbers -/
def bl (n : Nat) : Nat := if n = 0 then 0 else n.log2 + 1
theorem bl_eq (n : Nat) : Builtin.Int.intBits (n : Int) = bl n := by
  unfold Builtin.Int.intBits bl
  rw [Int.natAbs_natCast]
  by_cases h : n = 0
  · subst h
    rfl
  · rw [if_neg h, if_neg (by simpa using h)]
theorem lt_bl (n : Nat) : n < 2 ^ bl n := by
  unfold bl
  by_cases h : n = 0
  · subst h
    decide
  · rw [if_neg h]
    exact Nat.lt_log2_self
theorem bl_le {n k : Nat} (h : n < 2 ^ k) : bl n ≤ k := by
  unfold bl
  by_cases h0 : n = 0
  · rw [if_pos h0]
    exact Nat.zero_le _
  · rw [if_neg h0]
    exact (Nat.log2_lt h0).mpr h
theorem pow_bl {n : Nat} (h : n ≠ 0) : 2 ^ (bl n - 1) ≤ n ∧ 1 ≤ bl n := by
  unfold bl
  rw [if_neg h]
  exact ⟨Nat.log2_self_le h, by omega⟩
def cd (h s : Nat) : Nat := (h + 2 ^ s - 1) / 2 ^ s
theorem cd_cast (h s : Nat) : -(-(h : Int) / 2 ^ s) = ((cd h s : Nat) : Int) := by
  have hp : 0 < 2 ^ s := Nat.pow_pos (by decide)
  have e : (2 : Int) ^ s = ((2 ^ s : Nat) : Int) := by push_cast; rfl
  rw [e]
  unfold cd
  generalize 2 ^ s = p at hp
  have d1 := Nat.div_add_mod (h + p - 1) p
  have d2 := Nat.mod_lt (h + p - 1) hp
  generalize (h + p - 1) / p = q at *
  generalize (h + p - 1) % p = r at *
  have key : -(h : Int) / (p : Int) = -(q : Int) := by
    have a1 : -(q : Int) ≤ -(h : Int) / (p : Int) := by
      rw [Int.le_ediv_iff_mul_le (by omega)]
      have : (h : Int) ≤ (q : Int) * (p : Int) := by
        have z : h ≤ p * q := by omega
        have z2 : ((p * q : Nat) : Int) = (q : Int) * (p : Int) := by push_cast; exact Int.mul_comm _ _
        omega
      rw [Int.neg_mul]
      omega
    have a2 : -(h : Int) / (p : Int) < -(q : Int) + 1 := by
      rw [Int.ediv_lt_iff_lt_mul (by omega), Int.add_mul, Int.neg_mul, Int.one_mul]
      have z2 : ((p * q : Nat) : Int) = (q : Int) * (p : Int) := by push_cast; exact Int.mul_comm _ _
      omega
    omega
  rw [key]
  omega
abbrev Rg := Nat × Nat × Nat
structure Rgh (L bits x : Nat) (r : Rg) : Prop where
  lo : r.1 * 2 ^ r.2.2 ≤ x
  hi : x ≤ r.2.1 * 2 ^ r.2.2
  le : r.1 ≤ r.2.1
  sz : r.2.1 ≤ 2 ^ bits
  ex : L ≤ bits → r = (x, x, 0)
def trimR (lo hi sh bits : Nat) : Rg := (lo / 2 ^ (bl hi - bits), cd hi (bl hi - bits), sh + (bl hi - bits))
theorem trim_ok {L bits x lo hi sh : Nat} (h1 : lo * 2 ^ sh ≤ x) (h2 : x ≤ hi * 2 ^ sh) (h3 : lo ≤ hi) (hx : x < 2 ^ L) (ex : L ≤ bits → lo = x ∧ hi = x ∧ sh = 0) : Rgh L bits x (trimR lo hi sh bits) := by
  unfold trimR
  have hb := lt_bl hi
  generalize hs : bl hi - bits = s
  have hp : 0 < 2 ^ s := Nat.pow_pos (by decide)
  have d1 := Nat.div_add_mod (hi + 2 ^ s - 1) (2 ^ s)
  have d2 := Nat.mod_lt (hi + 2 ^ s - 1) hp
  have hc : hi ≤ cd hi s * 2 ^ s := by
    unfold cd
    rw [Nat.mul_comm]
    omega
  refine ⟨?_, ?_, ?_, ?_, ?_⟩
  · show lo / 2 ^ s * 2 ^ (sh + s) ≤ x
    rw [Nat.add_comm, Nat.pow_add, ← Nat.mul_assoc]
    exact Nat.le_trans (Nat.mul_le_mul_right _ (Nat.div_mul_le_self lo (2 ^ s))) h1
  · show x ≤ cd hi s * 2 ^ (sh + s)
    rw [Nat.add_comm, Nat.pow_add, ← Nat.mul_assoc]
    exact Nat.le_trans h2 (Nat.mul_le_mul_right _ hc)
  · show lo / 2 ^ s ≤ cd hi s
    exact Nat.div_le_div_right (by omega)
  · show cd hi s ≤ 2 ^ bits
    have : hi < 2 ^ bits * 2 ^ s := by
      rw [← Nat.pow_add]
      exact Nat.lt_of_lt_of_le hb (Nat.pow_le_pow_right (by decide) (by omega))
    unfold cd
    rw [← Nat.lt_succ_iff, Nat.div_lt_iff_lt_mul hp, Nat.succ_mul]
    omega
  · intro hL
    obtain ⟨rfl, rfl, rfl⟩ := ex hL
    have := bl_le hx
    have e0 : s = 0 := by omega
    subst e0
    unfold cd
    simp
def timesR (a b : Rg) (bits : Nat) : Rg := trimR (a.1 * b.1) (a.2.1 * b.2.1) (a.2.2 + b.2.2) bits
theorem times_ok {L bits x y : Nat} {a b : Rg} (ha : Rgh L bits x a) (hb : Rgh L bits y b) (h : x * y < 2 ^ L) : Rgh L bits (x * y) (timesR a b bits) := by
  refine trim_ok ?_ ?_ (Nat.mul_le_mul ha.le hb.le) h ?_
  · rw [Nat.pow_add, show a.1 * b.1 * (2 ^ a.2.2 * 2 ^ b.2.2) = (a.1 * 2 ^ a.2.2) * (b.1 * 2 ^ b.2.2) by grind]
    exact Nat.mul_le_mul ha.lo hb.lo
  · rw [Nat.pow_add, show a.2.1 * b.2.1 * (2 ^ a.2.2 * 2 ^ b.2.2) = (a.2.1 * 2 ^ a.2.2) * (b.2.1 * 2 ^ b.2.2) by grind]
    exact Nat.mul_le_mul ha.hi hb.hi
  · intro hL
    rw [ha.ex hL, hb.ex hL]
    exact ⟨rfl, rfl, rfl⟩
theorem one_ok {L bits : Nat} : Rgh L bits 1 (1, 1, 0) := ⟨by decide, by decide, by decide, Nat.pow_pos (by decide), fun _ => rfl⟩
theorem plain_ok {L bits x : Nat} (h : x < 2 ^ L) : Rgh L bits x (trimR x x 0 bits) := trim_ok (by simp) (by simp) (Nat.le_refl _) h fun _ => ⟨rfl, rfl, rfl⟩
/-- n * 2 ^ s > m * 2 ^ t -/
def abv (n s m t : Nat) : Bool := decide (m * 2 ^ t < n * 2 ^ s)
theorem abv_zero {n s m t : Nat} (h : n = 0 ∨ m = 0) : abv n s m t = decide (m < n) := by
  unfold abv
  have hs : 0 < 2 ^ s := Nat.pow_pos (by decide)
  rcases h with rfl | rfl
  · rw [decide_eq_false (by omega), decide_eq_false (by omega)]
  · by_cases hn : n = 0
    · subst hn
      rw [decide_eq_false (by omega), decide_eq_false (by omega)]
    · have : 0 < n * 2 ^ s := Nat.mul_pos (by omega) hs
      rw [decide_eq_true (by omega), decide_eq_true (by omega)]
theorem abv_size {n s m t : Nat} (hn : n ≠ 0) (hm : m ≠ 0) (h : bl n + s ≠ bl m + t) : abv n s m t = decide (bl m + t < bl n + s) := by
  have key : ∀ {n s m t : Nat}, n ≠ 0 → bl m + t < bl n + s → m * 2 ^ t < n * 2 ^ s := fun {n s m t} hn h => by
    have h1 := lt_bl m
    obtain ⟨h2, h3⟩ := pow_bl hn
    have a1 : m * 2 ^ t < 2 ^ (bl m + t) := by
      rw [Nat.pow_add]
      exact (Nat.mul_lt_mul_right (Nat.pow_pos (by decide))).mpr h1
    have a2 : 2 ^ (bl n - 1 + s) ≤ n * 2 ^ s := by
      rw [Nat.pow_add]
      exact Nat.mul_le_mul_right _ h2
    have a3 : (2 : Nat) ^ (bl m + t) ≤ 2 ^ (bl n - 1 + s) := Nat.pow_le_pow_right (by decide) (by omega)
    omega
  unfold abv
  by_cases c : bl m + t < bl n + s
  · rw [decide_eq_true (key hn c), decide_eq_true c]
  · have := key (n := m) (s := t) (m := n) (t := s) hm (by omega)
    rw [decide_eq_false (by omega), decide_eq_false c]
theorem abv_shift {n s m t : Nat} : abv n s m t = decide (m * 2 ^ (t - min s t) < n * 2 ^ (s - min s t)) := by
  unfold abv
  have e : ∀ a k l : Nat, l ≤ k → a * 2 ^ k = a * 2 ^ (k - l) * 2 ^ l := fun a k l h => by
    rw [Nat.mul_assoc, ← Nat.pow_add, Nat.sub_add_cancel h]
  rw [e m t (min s t) (Nat.min_le_right _ _), e n s (min s t) (Nat.min_le_left _ _)]
  have hp : 0 < 2 ^ min s t := Nat.pow_pos (by decide)
  rw [decide_eq_decide]
  exact Nat.mul_lt_mul_right hp
def cmpR (a b : Rg) : Int := if abv a.1 a.2.2 b.2.1 b.2.2 = true then 1 else if abv a.2.1 a.2.2 b.1 b.2.2 = true then 0 else -1
theorem cmp_ok {L bits x y : Nat} {a b : Rg} (ha : Rgh L bits x a) (hb : Rgh L bits y b) : (cmpR a b = 1 ∧ y < x) ∨ (cmpR a b = -1 ∧ x ≤ y) ∨ (cmpR a b = 0 ∧ bits < L) := by
  unfold cmpR
  by_cases c : abv a.1 a.2.2 b.2.1 b.2.2 = true
  · rw [if_pos c]
    unfold abv at c
    have c := of_decide_eq_true c
    have := ha.lo
    have := hb.hi
    exact .inl ⟨rfl, by omega⟩
  · rw [if_neg c]
    by_cases d : abv a.2.1 a.2.2 b.1 b.2.2 = true
    · rw [if_pos d]
      refine .inr (.inr ⟨rfl, ?_⟩)
      by_cases hL : L ≤ bits
      · rw [ha.ex hL, hb.ex hL] at c d
        exact absurd d c
      · omega
    · rw [if_neg d]
      unfold abv at d
      have d : ¬ (b.1 * 2 ^ b.2.2 < a.2.1 * 2 ^ a.2.2) := fun z => d (decide_eq_true z)
      have := ha.hi
      have := hb.lo
      exact .inr (.inl ⟨rfl, by omega⟩)

/-! ### the greatest off -/
def tkN (far days w j : Nat) : Nat := (500 + far) ^ j * (500 - far) ^ (2 * days - j) * (w * w)
def gvN (days held : Nat) : Nat := 500 ^ (2 * days) * (held * held)
def bornN (far days w held j : Nat) : Bool := decide (tkN far days w j ≤ gvN days held)
theorem tk_up {far days w j : Nat} (h : j < 2 * days) : tkN far days w j ≤ tkN far days w (j + 1) := by
  unfold tkN
  refine Nat.mul_le_mul_right _ ?_
  rw [show 2 * days - j = 2 * days - (j + 1) + 1 by omega, Nat.pow_succ, Nat.pow_succ]
  rw [show (500 + far) ^ j * ((500 - far) ^ (2 * days - (j + 1)) * (500 - far)) = (500 + far) ^ j * (500 - far) * (500 - far) ^ (2 * days - (j + 1)) by grind]
  exact Nat.mul_le_mul_right _ (Nat.mul_le_mul_left _ (by omega))
theorem tk_mono {far days w i : Nat} : ∀ {k : Nat}, i + k ≤ 2 * days → tkN far days w i ≤ tkN far days w (i + k)
  | 0, _ => Nat.le_refl _
  | k + 1, h => Nat.le_trans (tk_mono (k := k) (by omega)) (tk_up (by omega))
theorem born_down {far days w held i j : Nat} (hij : i ≤ j) (hj : j ≤ 2 * days) (h : bornN far days w held j = true) : bornN far days w held i = true := by
  unfold bornN at *
  have h := of_decide_eq_true h
  have := tk_mono (far := far) (days := days) (w := w) (i := i) (k := j - i) (by omega)
  rw [show i + (j - i) = j by omega] at this
  exact decide_eq_true (by omega)
def lastJ (P : Nat → Bool) : Nat → Option Nat
  | 0 => none
  | n + 1 => if P n = true then some n else lastJ P n
theorem lastJ_none {P : Nat → Bool} : ∀ {n : Nat}, (∀ j, j < n → P j = false) → lastJ P n = none
  | 0, _ => rfl
  | n + 1, h => by
    unfold lastJ
    rw [if_neg (by rw [h n (by omega)]; exact Bool.false_ne_true)]
    exact lastJ_none fun j hj => h j (by omega)
theorem lastJ_some {P : Nat → Bool} {l : Nat} (hl : P l = true) : ∀ {n : Nat}, l < n → (∀ j, l < j → j < n → P j = false) → lastJ P n = some l
  | 0, h, _ => by omega
  | n + 1, h, hj => by
    unfold lastJ
    by_cases e : l = n
    · subst e
      rw [if_pos hl]
    · rw [if_neg (by rw [hj n (by omega) (by omega)]; exact Bool.false_ne_true)]
      exact lastJ_some hl (by omega) fun j h1 h2 => hj j h1 (by omega)
def moI (far days w held : Nat) : Option Nat := lastJ (bornN far days w held) (2 * days + 1)
def moV (days : Nat) : Option Nat → V
  | none => .non
  | some j => .int ((j : Int) - (days : Int))
theorem mo_none {far days w held : Nat} (h : bornN far days w held 0 = false) : moI far days w held = none := lastJ_none fun j hj => by
  by_cases c : bornN far days w held j = true
  · rw [born_down (Nat.zero_le j) (by omega) c] at h
    cases h
  · simpa using c
theorem mo_some {far days w held l : Nat} (hl : l ≤ 2 * days) (h : bornN far days w held l = true) (hn : l = 2 * days ∨ bornN far days w held (l + 1) = false) : moI far days w held = some l := by
  refine lastJ_some h (by omega) fun j h1 h2 => ?_
  rcases hn with e | e
  · omega
  · by_cases c : bornN far days w held j = true
    · rw [born_down (i := l + 1) (by omega) (by omega) c] at e
      cases e
    · simpa using c
/-! ### sizes -/
theorem pow_size {b e k : Nat} (hb : b < 2 ^ k) : b ^ e ≤ 2 ^ (k * e) := by
  rw [Nat.pow_mul]
  exact Nat.pow_le_pow_left (Nat.le_of_lt hb) e
def LL : Nat := 25000
theorem pw_size {b e : Nat} (hb : b < 1024) (he : e ≤ 2000) : b ^ e ≤ 2 ^ 20000 := by
  have h := pow_size (b := b) (e := e) (k := 10) hb
  exact Nat.le_trans h (Nat.pow_le_pow_right (by decide) (by omega))
theorem size_lt {a b : Nat} (h : a < b) : (2 : Nat) ^ a < 2 ^ b := Nat.pow_lt_pow_right (by decide) h
theorem pw_LL {b e : Nat} (hb : b < 1024) (he : e ≤ 2000) : b ^ e < 2 ^ LL := Nat.lt_of_le_of_lt (pw_size hb he) (size_lt (by decide))

/-! ### on the heap -/
def RgAt (K : PySem.W.Frag) (H : Hp) (r : Rg) (v : V) : Prop := ∃ p, v = .ref p ∧ SqT K H p [.int (r.1 : Int), .int (r.2.1 : Int), .int (r.2.2 : Int)]
theorem RgAt.same {K : PySem.W.Frag} {H H' : Hp} {x : Rg} {v : V} (r : RgAt K H x v) (s : Same H H') : RgAt K H' x v := by
  obtain ⟨p, e, q⟩ := r
  exact ⟨p, e, same_sqt s q⟩
def spTrim (K : PySem.W.Frag) : Sp := fun vs H Q _ => ∃ lo hi sh bits : Nat, vs = [.int (lo : Int), .int (hi : Int), .int (sh : Int), .int (bits : Int)] ∧ ∀ H' v, Same H H' → RgAt K H' (trimR lo hi sh bits) v → Q v H'
def spTimes (K : PySem.W.Frag) : Sp := fun vs H Q _ => ∃ (u v : V) (a b : Rg) (bits : Nat), vs = [u, v, .int (bits : Int)] ∧ RgAt K H a u ∧ RgAt K H b v ∧ bits ≤ 200000 ∧ a.1 ≤ a.2.1 ∧ b.1 ≤ b.2.1 ∧ a.2.1 ≤ 2 ^ bits ∧ b.2.1 ≤ 2 ^ bits ∧ ∀ H' v, Same H H' → RgAt K H' (timesR a b bits) v → Q v H'
def spRPower (K : PySem.W.Frag) : Sp := fun vs H Q _ => ∃ b e bits : Nat, vs = [.int (b : Int), .int (e : Int), .int (bits : Int)] ∧ b < 1024 ∧ e ≤ 1000 ∧ bits ≤ 200000 ∧ ∀ H' v r, Same H H' → RgAt K H' r v → Rgh LL bits (b ^ e) r → Q v H'
def spAbove : Sp := fun vs H Q _ => ∃ n s m t : Nat, vs = [.int (n : Int), .int (s : Int), .int (m : Int), .int (t : Int)] ∧ n < 2 ^ 300000 ∧ m < 2 ^ 300000 ∧ Q (.bl (abv n s m t)) H
def spCompared (K : PySem.W.Frag) : Sp := fun vs H Q _ => ∃ (u v : V) (a b : Rg), vs = [u, v] ∧ RgAt K H a u ∧ RgAt K H b v ∧ a.1 ≤ a.2.1 ∧ b.1 ≤ b.2.1 ∧ a.2.1 < 2 ^ 300000 ∧ b.2.1 < 2 ^ 300000 ∧ Q (.int (cmpR a b)) H
structure OffOk (far days w held : Nat) : Prop where
  f : far ≤ 500
  d : days ≤ 500
  w : w < 2 ^ 64
  h : held < 2 ^ 64
def spWithin (K : PySem.W.Frag) : Sp := fun vs H Q _ => ∃ far days w held j bits : Nat, vs = [.int (far : Int), .int (days : Int), .int (w : Int), .int (held : Int), .int ((j : Int) - (days : Int)), .int (bits : Int)] ∧ OffOk far days w held ∧ j ≤ 2 * days ∧ bits ≤ 200000 ∧
  ∀ H' c, Same H H' → ((c = 1 ∧ bornN far days w held j = false) ∨ (c = -1 ∧ bornN far days w held j = true) ∨ (c = 0 ∧ bits < LL)) → Q (.int c) H'
def spSureIn (K : PySem.W.Frag) : Sp := fun vs H Q _ => ∃ far days w held j : Nat, vs = [.int (far : Int), .int (days : Int), .int (w : Int), .int (held : Int), .int ((j : Int) - (days : Int))] ∧ OffOk far days w held ∧ j ≤ 2 * days ∧
  ∀ H', Same H H' → Q (.bl (bornN far days w held j)) H'
def spMostOff (K : PySem.W.Frag) : Sp := fun vs H Q _ => ∃ far days w held : Nat, vs = [.int (far : Int), .int (days : Int), .int (w : Int), .int (held : Int)] ∧ OffOk far days w held ∧ ∀ H', Same H H' → Q (moV days (moI far days w held)) H'
end NG

namespace NG
open PySem PySem.Spec PyProof.Rows L2
/-! ### comprehensions of two for -/
theorem lc2_tup {K : PySem.W.Frag} {a : Addr} {xs : List V} {g : TG} {tt : TT} {B : L2.St → Hp → (Hp → Prop) → Prop} {vs : List Nat} {σ : L2.St} {H1 : Hp} {D : Addr} {Qd : Hp → Prop} (Pv : Nat → Hp → Prop) (h0 : Pv 0 (upd H1 D (.lst []))) (hl : ∀ i H, i ≤ xs.length → Pv i H → SqT K H a xs)
    (hs : ∀ i x H, xs[i]? = some x → Pv i H → g x (wipe σ vs) H fun σ2 H2 => wipe σ2 vs = wipe σ vs ∧ tt σ2 H2 fun b H3 => if b = true then B σ2 H3 (Pv (i + 1)) else Pv (i + 1) H3) (hd : ∀ H, Pv xs.length H → Qd H) :
    ∃ W : Nat → Nat → Hp → Prop, (∃ m, W 0 m (upd H1 D (.lst []))) ∧ ∀ i m H, W i m H →
      ((Itt K a).stop i H ∧ Qd H) ∨ ((Itt K a).go i H ∧ ∃ Nx : Hp → Prop, (∀ H', Nx H' → ∃ m', m' < m ∧ W (i + 1) m' H') ∧ ∀ x H', (Itt K a).yld i H x H' → g x (wipe σ vs) H' fun σ2 H2 => wipe σ2 vs = wipe σ vs ∧ tt σ2 H2 fun b H3 =>
        if b = true then B σ2 H3 Nx else Nx H3) := by
  refine ⟨fun i m H => m = xs.length - i ∧ i ≤ xs.length ∧ Pv i H, ⟨xs.length, by simp, Nat.zero_le _, h0⟩, ?_⟩
  rintro i m H ⟨rfl, hi, p⟩
  have q := hl i H hi p
  by_cases hlt : i < xs.length
  · refine .inr ⟨⟨xs, xs[i], q, by simp [hlt]⟩, Pv (i + 1), fun H' p' => ⟨xs.length - (i + 1), by omega, rfl, hlt, p'⟩, fun x H' y => ?_⟩
    obtain ⟨e, y⟩ := y
    subst e
    exact hs i x _ (y xs q) p
  · have e : i = xs.length := by omega
    subst e
    exact .inl ⟨⟨xs, q, Nat.le_refl _⟩, hd H p⟩
theorem in_tup {K : PySem.W.Frag} {a : Addr} {xs : List V} {g : TG} {tt : TT} {te : TE} {vs : List Nat} {σ : L2.St} {H1 : Hp} {D : Addr} {Qd : Hp → Prop} (Pv : Nat → Hp → Prop) (h0 : Pv 0 H1) (hl : ∀ i H, i ≤ xs.length → Pv i H → SqT K H a xs)
    (hs : ∀ i x H, xs[i]? = some x → Pv i H → g x (wipe σ vs) H fun σ2 H2 => wipe σ2 vs = wipe σ vs ∧ tt σ2 H2 fun b H3 =>
      if b = true then te σ2 H3 fun y H4 => ∃ acc, H4 D = some (.lst acc) ∧ acc.length < sizeLine ∧ Pv (i + 1) (upd H4 D (.lst (acc ++ [y]))) else Pv (i + 1) H3) (hd : ∀ H, Pv xs.length H → Qd H) :
    ∃ W : Nat → Nat → Hp → Prop, (∃ m, W 0 m H1) ∧ ∀ i m H, W i m H →
      ((Itt K a).stop i H ∧ Qd H) ∨ ((Itt K a).go i H ∧ ∃ Nx : Hp → Prop, (∀ H', Nx H' → ∃ m', m' < m ∧ W (i + 1) m' H') ∧ ∀ x H', (Itt K a).yld i H x H' → g x (wipe σ vs) H' fun σ2 H2 => wipe σ2 vs = wipe σ vs ∧ tt σ2 H2 fun b H3 =>
        if b = true then te σ2 H3 fun y H4 => ∃ acc, H4 D = some (.lst acc) ∧ acc.length < sizeLine ∧ Nx (upd H4 D (.lst (acc ++ [y]))) else Nx H3) := by
  refine ⟨fun i m H => m = xs.length - i ∧ i ≤ xs.length ∧ Pv i H, ⟨xs.length, by simp, Nat.zero_le _, h0⟩, ?_⟩
  rintro i m H ⟨rfl, hi, p⟩
  have q := hl i H hi p
  by_cases hlt : i < xs.length
  · refine .inr ⟨⟨xs, xs[i], q, by simp [hlt]⟩, Pv (i + 1), fun H' p' => ⟨xs.length - (i + 1), by omega, rfl, hlt, p'⟩, fun x H' y => ?_⟩
    obtain ⟨e, y⟩ := y
    subst e
    exact hs i x _ (y xs q) p
  · have e : i = xs.length := by omega
    subst e
    exact .inl ⟨⟨xs, q, Nat.le_refl _⟩, hd H p⟩
/-! ### max of three ints -/
theorem cr_max3 {X : Cx} (hc : X.calm = true) : CallR X (.builtin "max") (fun xs H Q => ∃ i j k : Int, xs = [.int i, .int j, .int k] ∧ Q (.int (mx (mx i j) k)) H) := by
  intro pins s σ H xs us Q I r h
  obtain ⟨i, j, k, rfl, q⟩ := h
  refine call_max3Nu hc pins s σ H _ us Q I r ⟨_, _, _, _, rfl, ?_, q⟩
  have e2 : ∀ a b : Int, nuMax2 (.int a) (.int b) = some (.int (mx a b)) := fun a b => by
    show (some (decide (a < b))).map (fun c => if c = true then V.int b else V.int a) = _
    unfold mx
    by_cases c : a < b
    · rw [decide_eq_true c, if_pos c]
      rfl
    · rw [decide_eq_false c, if_neg c]
      rfl
  show (nuMax2 (.int i) (.int j)).bind _ = _
  rw [e2]
  show nuMax2 (.int (mx i j)) (.int k) = _
  rw [e2]
/-! ### bounds of doubters -/
def farS (a : Int) (e : Ex) : Int := mx (mx a (ab (spn e).1)) (ab (spn e).2)
def farI (es : List Ex) : Int := es.foldl farS 0
def endsI (es : List Ex) : List Int := es.flatMap fun e => [ab (spn e).1, ab (spn e).2]
theorem ab_nn (x : Int) : 0 ≤ ab x := by unfold ab; split <;> omega
theorem farF_ge : ∀ (es : List Ex) (a : Int), a ≤ es.foldl farS a ∧ ∀ x ∈ endsI es, x ≤ es.foldl farS a
  | [], a => ⟨Int.le_refl _, fun x h => by cases h⟩
  | e :: es, a => by
    obtain ⟨h1, h2⟩ := farF_ge es (farS a e)
    have k1 := le_mx a (ab (spn e).1)
    have k2 := le_mx (mx a (ab (spn e).1)) (ab (spn e).2)
    have k3 : farS a e = mx (mx a (ab (spn e).1)) (ab (spn e).2) := rfl
    refine ⟨?_, fun x hx => ?_⟩
    · show a ≤ es.foldl farS (farS a e)
      omega
    · show x ≤ es.foldl farS (farS a e)
      have hx : x ∈ [ab (spn e).1, ab (spn e).2] ++ endsI es := hx
      rcases List.mem_append.mp hx with hx | hx
      · simp only [List.mem_cons, List.not_mem_nil, or_false] at hx
        rcases hx with rfl | rfl <;> omega
      · exact h2 x hx
theorem farF_or : ∀ (es : List Ex) (a : Int), es.foldl farS a = a ∨ es.foldl farS a ∈ endsI es
  | [], a => .inl rfl
  | e :: es, a => by
    show es.foldl farS (farS a e) = a ∨ es.foldl farS (farS a e) ∈ [ab (spn e).1, ab (spn e).2] ++ endsI es
    rcases farF_or es (farS a e) with h | h
    · rw [h]
      unfold farS
      rcases mx_or (mx a (ab (spn e).1)) (ab (spn e).2) with z | z
      · rw [z]
        rcases mx_or a (ab (spn e).1) with y | y
        · exact .inl y
        · rw [y]
          exact .inr (List.mem_append_left _ (by simp))
      · rw [z]
        exact .inr (List.mem_append_left _ (by simp))
    · exact .inr (List.mem_append_right _ h)
theorem far_max {es : List Ex} {m : Int} (h0 : es ≠ []) (hm : m ∈ endsI es) (hx : ∀ y ∈ endsI es, y ≤ m) : m = farI es := by
  obtain ⟨h1, h2⟩ := farF_ge es 0
  have k := h2 m hm
  have nn : ∀ y ∈ endsI es, 0 ≤ y := fun y hy => by
    obtain ⟨e, _, hy⟩ := List.mem_flatMap.mp hy
    simp only [List.mem_cons, List.not_mem_nil, or_false] at hy
    rcases hy with rfl | rfl <;> exact ab_nn _
  have k2 := nn m hm
  unfold farI
  rcases farF_or es 0 with h | h
  · omega
  · have := hx _ h
    omega
def pw2 : Nat → Int
  | 0 => 1
  | 1 => 2
  | 2 => 4
  | 3 => 8
  | _ => 16
theorem pw2_bnd (s : Nat) : 1 ≤ pw2 s ∧ pw2 s ≤ 16 := by
  match s with
  | 0 => decide
  | 1 => decide
  | 2 => decide
  | 3 => decide
  | _ + 4 => show (1 : Int) ≤ 16 ∧ (16 : Int) ≤ 16; decide
def bndI (D : Dbt) : Int := mx 1 ((farI D.stakes + pw2 D.scale - 1) / pw2 D.scale)
theorem st_ends {many l : Nat} {e : Ex} (h : StOk many l e) : ab (spn e).1 ≤ 500 ∧ ab (spn e).2 ≤ 500 := by
  have k : ∀ {x : Int}, -500 ≤ x → x ≤ 500 → ab x ≤ 500 := fun h1 h2 => by unfold ab; split <;> omega
  rcases h with ⟨c, rfl, h1, h2⟩ | ⟨c, e', rfl, h1, h2, _⟩
  · exact ⟨k h1 h2, k h1 h2⟩
  · have z : ∀ y : Int, -500 ≤ mn c (mx (-c) y) ∧ mn c (mx (-c) y) ≤ 500 := fun y => by
      unfold mn mx
      split <;> split <;> omega
    exact ⟨k (z _).1 (z _).2, k (z _).1 (z _).2⟩
theorem far_500 {many l : Nat} {es : List Ex} (h : ∀ e ∈ es, StOk many l e) : 0 ≤ farI es ∧ farI es ≤ 500 := by
  refine ⟨(farF_ge es 0).1, ?_⟩
  unfold farI
  rcases farF_or es 0 with k | k
  · omega
  · obtain ⟨e, he, hy⟩ := List.mem_flatMap.mp k
    have := st_ends (h e he)
    simp only [List.mem_cons, List.not_mem_nil, or_false] at hy
    rcases hy with hy | hy <;> omega
theorem bnd_500 {many l : Nat} {D : Dbt} (h : ∀ e ∈ D.stakes, StOk many l e) : 1 ≤ bndI D ∧ bndI D ≤ 500 := by
  have h1 := far_500 h
  have h2 := pw2_bnd D.scale
  unfold bndI
  have h3 : (farI D.stakes + pw2 D.scale - 1) / pw2 D.scale ≤ 500 := by
    have : (farI D.stakes + pw2 D.scale - 1) / pw2 D.scale < 501 := by
      rw [Int.ediv_lt_iff_lt_mul (by omega)]
      omega
    omega
  unfold mx
  split <;> omega
end NG

namespace NG
open PySem PySem.Spec PyProof.Rows L2
/-! ### a statement that is never reached -/
theorem ps_dead {X : Cx} {st : Stmt} : PS X st (fun _ _ _ => False) := ⟨fun _ _ _ _ _ _ h => h.elim⟩
/-! ### min of a tuple of ints -/
def rMinT (K : PySem.W.Frag) : List V → Hp → VK → Prop := fun vs H Q => ∃ (a : Addr) (n : Int) (ns : List Int), vs = [V.ref a] ∧ SqT K H a ((n :: ns).map V.int) ∧ Q (.int (ns.foldl min n)) H
theorem cr_minT {X : Cx} (hc : X.calm = true) (hu : X.A.units + 64 < cLine) : CallR X (.builtin "min") (rMinT X.K) := by
  intro pins s σ H vs us Q I r h
  obtain ⟨a, n, ns, rfl, hs, q⟩ := h
  obtain ⟨its, rv, p, _⟩ := I.tuple hs
  rw [Vals.ref1 r]
  obtain ⟨as, hr⟩ := Dp.readsAll I ((n :: ns).map PyData.int) _ its (dp_ints (n :: ns)) rv
  rw [List.map_cons] at hr
  have al : PySem.W.AlikeAll (PyData.int n :: ns.map PyData.int) := ⟨fun x hx y hy => by
    rw [← List.map_cons (f := PyData.int)] at hx hy
    obtain ⟨i, _, rfl⟩ := List.mem_map.mp hx
    obtain ⟨j, _, rfl⟩ := List.mem_map.mp hy
    rfl, fun x hx => by
    rw [← List.map_cons (f := PyData.int)] at hx
    obtain ⟨i, _, rfl⟩ := List.mem_map.mp hx
    exact fun e => nomatch e⟩
  refine PySem.W.min_tuple_data (I.ok.hd hc) p (by simpa using hr) al (by rw [← List.map_cons (f := PyData.int), depth_ints]; omega) fun i v h' tk bs _ rd hk => ?_
  rw [PySem.W.minD_ints] at rd
  cases rd
  exact ⟨.int _, H, I.kept hk, ⟨_, rfl⟩, q⟩
/-! ### days of ones -/
def wsI (ss : List Int) (o : One) : List Int := o.dbt.stakes.map (wo o.regs ss)
def fullI (ss : List Int) (o : One) : Int := 1000 * pw2 o.dbt.scale * ss.sum * ss.sum
def winI (ss : List Int) (j : Nat) (o : One) : Int := ss.sum * (wsI ss o).getD j 0 - dotI ss (wsI ss o)
def alikeI : List Int → Bool
  | [] => true
  | n :: ns => decide (ns.foldl min n = ns.foldl max n)
theorem alike_eq (n : Int) (ns : List Int) : (ns.foldl min n == ns.foldl max n) = alikeI (n :: ns) := by
  show _ = decide (ns.foldl min n = ns.foldl max n)
  rw [Bool.eq_iff_iff]
  simp
def dayO (rg : List Int → Ds → List Int → List Int) (ss : List Int) (j : Nat) (o : One) : One :=
  ⟨o.dbt, rg ss (o.dbt.behinds.getD j .nil) o.regs, o.weight, o.motes * (fullI ss o + winI ss j o) / fullI ss o, -(-o.owed * (fullI ss o + winI ss j o) / fullI ss o) + 1, if alikeI (wsI ss o) = true then o.days else o.days + 1, o.got + 1000000000 * winI ss j o / fullI ss o⟩
def dayMs (rg : List Int → Ds → List Int → List Int) (ss : List Int) (j : Nat) : Ms → Ms
  | .nil => .nil
  | .one o r => .one (dayO rg ss j o) (dayMs rg ss j r)
  | .house nm m r => .house nm (dayMs rg ss j m) (dayMs rg ss j r)
theorem day_ao (rg : List Int → Ds → List Int → List Int) (ss : List Int) (j : Nat) : ∀ m : Ms, aoI (dayMs rg ss j m) = (aoI m).map (dayO rg ss j)
  | .nil => rfl
  | .one o r => by
    show _ :: aoI (dayMs rg ss j r) = _
    rw [day_ao rg ss j r]
    rfl
  | .house nm m r => by
    show aoI (dayMs rg ss j m) ++ aoI (dayMs rg ss j r) = _
    rw [day_ao rg ss j m, day_ao rg ss j r, ← List.map_append]
    rfl
/-! ### members as a list -/
def mks : Ms → List Mk
  | .nil => []
  | .one o r => .one o :: mks r
  | .house nm m r => .house nm m :: mks r
def MksAt (K : PySem.W.Frag) (H : Hp) : List V → List Mk → Prop
  | [], [] => True
  | v :: vs, e :: es => MkAt K H e v ∧ MksAt K H vs es
  | _, _ => False
theorem MksAt.imp {K : PySem.W.Frag} {H H' : Hp} (h : ∀ p xs, SqT K H p xs → SqT K H' p xs) : ∀ {vs : List V} {es : List Mk}, MksAt K H vs es → MksAt K H' vs es
  | [], [], _ => trivial
  | _ :: _, _ :: _, ⟨x, r⟩ => ⟨x.imp h, MksAt.imp h r⟩
theorem MksAt.len {K : PySem.W.Frag} {H : Hp} : ∀ {vs : List V} {es : List Mk}, MksAt K H vs es → vs.length = es.length
  | [], [], _ => rfl
  | _ :: _, _ :: _, ⟨_, r⟩ => by rw [List.length_cons, List.length_cons, r.len]
theorem MksAt.snoc {K : PySem.W.Frag} {H : Hp} {v : V} {e : Mk} (x : MkAt K H e v) : ∀ {vs : List V} {es : List Mk}, MksAt K H vs es → MksAt K H (vs ++ [v]) (es ++ [e])
  | [], [], _ => ⟨x, trivial⟩
  | _ :: _, _ :: _, ⟨y, r⟩ => ⟨y, MksAt.snoc x r⟩
theorem MksAt.get' {K : PySem.W.Frag} {H : Hp} : ∀ {vs : List V} {es : List Mk} {k : Nat} {v : V}, MksAt K H vs es → vs[k]? = some v → ∃ e, es[k]? = some e ∧ MkAt K H e v
  | [], [], _, _, _, h => by simp at h
  | v :: vs, e' :: es, 0, v', ⟨x, r⟩, h => by
    have : v = v' := Option.some.inj h
    subst this
    exact ⟨e', rfl, x⟩
  | v :: vs, e' :: es, k + 1, e, ⟨x, r⟩, h => MksAt.get' (k := k) r h
theorem MsAt.mks {K : PySem.W.Frag} {H : Hp} : ∀ {m : Ms} {vs : List V}, MsAt K H m vs → MksAt K H vs (mks m)
  | .nil, vs, h => by
    have h : vs = [] := h
    subst h
    exact trivial
  | .one o r, _, ⟨v, us, e, q, h⟩ => by
    subst e
    exact ⟨q, MsAt.mks h⟩
  | .house nm m r, _, ⟨p, pm, xs, us, e, q, qm, h1, h2⟩ => by
    subst e
    exact ⟨⟨p, pm, xs, rfl, q, qm, h1⟩, MsAt.mks h2⟩
theorem MksAt.ms {K : PySem.W.Frag} {H : Hp} : ∀ {m : Ms} {vs : List V}, MksAt K H vs (NG.mks m) → MsAt K H m vs
  | .nil, [], _ => rfl
  | .nil, _ :: _, h => h.elim
  | .one o r, [], h => h.elim
  | .one o r, v :: vs, ⟨x, h⟩ => ⟨v, vs, rfl, x, MksAt.ms h⟩
  | .house nm m r, [], h => h.elim
  | .house nm m r, v :: vs, ⟨⟨p, pm, xs, e, q, qm, h1⟩, h⟩ => by
    subst e
    exact ⟨p, pm, xs, vs, rfl, q, qm, h1, MksAt.ms h⟩
def dayMk (rg : List Int → Ds → List Int → List Int) (ss : List Int) (j : Nat) : Mk → Mk
  | .one o => .one (dayO rg ss j o)
  | .house nm m => .house nm (dayMs rg ss j m)
theorem mks_day (rg : List Int → Ds → List Int → List Int) (ss : List Int) (j : Nat) : ∀ m : Ms, mks (dayMs rg ss j m) = (mks m).map (dayMk rg ss j)
  | .nil => rfl
  | .one o r => by
    show _ :: mks (dayMs rg ss j r) = _
    rw [mks_day rg ss j r]
    rfl
  | .house nm m r => by
    show _ :: mks (dayMs rg ss j r) = _
    rw [mks_day rg ss j r]
    rfl
theorem mks_len : ∀ m : Ms, (mks m).length ≤ m.cnt
  | .nil => Nat.le_refl _
  | .one o r => by
    have := mks_len r
    show (mks r).length + 1 ≤ 1 + r.cnt
    omega
  | .house nm m r => by
    have := mks_len r
    show (mks r).length + 1 ≤ 1 + m.cnt + r.cnt
    omega
def MkD (P : One → Prop) (d c : Nat) : Mk → Prop
  | .one o => P o
  | .house _ m => m.dep < d ∧ m.cnt ≤ c ∧ m.all P
theorem mks_ok {P : One → Prop} {c : Nat} : ∀ {m : Ms} {d : Nat}, m.dep < d + 1 → m.cnt ≤ c → m.all P → ∀ k ∈ mks m, MkD P d c k
  | .nil, _, _, _, _, k, hk => by cases hk
  | .one o r, d, h1, h2, h3, k, hk => by
    have h1 : r.dep < d + 1 := h1
    have h2 : 1 + r.cnt ≤ c := h2
    rcases List.mem_cons.mp hk with rfl | hk
    · exact h3.1
    · exact mks_ok h1 (by omega) h3.2 k hk
  | .house nm m r, d, h1, h2, h3, k, hk => by
    have h1 : max (m.dep + 1) r.dep < d + 1 := h1
    have h2 : 1 + m.cnt + r.cnt ≤ c := h2
    rcases List.mem_cons.mp hk with rfl | hk
    · exact ⟨by omega, by omega, h3.1⟩
    · exact mks_ok (by omega) (by omega) h3.2 k hk
end NG

namespace NG
open PySem PySem.Spec PyProof.Rows L2
/-! ### rules with the fragment named, for use inside a comprehension -/
theorem maxTK {X : Cx} (K : PySem.W.Frag) (hc : X.calm = true) (hu : X.A.units + 64 < cLine) (h : X.K = K := by rfl) : CallR X (.builtin "max") (rMaxT K) := by
  subst h; exact cr_maxT hc hu
theorem minTK {X : Cx} (K : PySem.W.Frag) (hc : X.calm = true) (hu : X.A.units + 64 < cLine) (h : X.K = K := by rfl) : CallR X (.builtin "min") (rMinT K) := by
  subst h; exact cr_minT hc hu
theorem eqDK {X : Cx} (K : PySem.W.Frag) (hu : X.A.units + 64 < cLine) (h : X.K = K := by rfl) : OpR X (compareOp .Eq) (rEqD K) := by
  subst h; exact op_eqD hu
theorem neDK {X : Cx} (K : PySem.W.Frag) (hu : X.A.units + 64 < cLine) (h : X.K = K := by rfl) : OpR X (compareOp .NotEq) (rNeD K) := by
  subst h; exact op_neD hu
end NG

namespace NG
open PySem PySem.Spec PyProof.Rows L2
/-! ### a word among a written dict's keys -/
def rInKd (K : PySem.W.Frag) (w : World) : R2 := fun x y H Q => ∃ z p v, x = .str z ∧ y = .ref p ∧ KDct K w p z v ∧ (p == sysModules) = false ∧ Q (.bl true) H
def rNinKd (K : PySem.W.Frag) (w : World) : R2 := fun x y H Q => ∃ z p v, x = .str z ∧ y = .ref p ∧ KDct K w p z v ∧ (p == sysModules) = false ∧ Q (.bl false) H
theorem op_inKd {X : Cx} : OpR X (compareOp .In) (rInKd X.K X.w) := by
  intro pins s σ H x y v u Q I rx ry h
  obtain ⟨z, p, v0, rfl, rfl, ⟨es, n, u0, hl, hk, e, ru⟩, low, q⟩ := h
  exact op_in_kd (X := X) ⟨hl, hk, low⟩ pins s σ H _ _ v u Q I rx ry ⟨z, some u0, rfl, rfl, e, q⟩
theorem op_ninKd {X : Cx} : OpR X (compareOp .NotIn) (rNinKd X.K X.w) := by
  intro pins s σ H x y v u Q I rx ry h
  obtain ⟨z, p, v0, rfl, rfl, ⟨es, n, u0, hl, hk, e, ru⟩, low, q⟩ := h
  exact op_notIn_kd (X := X) ⟨hl, hk, low⟩ pins s σ H _ _ v u Q I rx ry ⟨z, some u0, rfl, rfl, e, q⟩
/-! ### kinds of things -/
def tyd : PyData → String
  | .none => "NoneType"
  | .bool _ => "bool"
  | .int _ => "int"
  | .str _ => "str"
  | .list _ => "list"
  | .tuple _ => "tuple"
  | .dict _ => "dict"
theorem Dp.tyx {K : PySem.W.Frag} {H : Hp} {d : PyData} {v : V} (h : Dp K H v d) : TyX K H v (.type (tyd d)) := by
  cases h with
  | non => exact .base .non
  | bl b => exact .base (.bl b)
  | int i => exact .base (.int i)
  | str x => exact .base (.str x)
  | lst q _ =>
    rcases q with (q | ⟨o, q⟩) | ⟨o, its, n, h1, h2, _⟩
    · exact .base (.lst q)
    · exact .base (.frz q)
    · exact .kList h1 h2
  | tup q _ => exact tyx_tup q
def isInt : PyData → Bool
  | .int _ => true
  | _ => false
theorem rIsi_of {K : PySem.W.Frag} {H : Hp} {d : PyData} {v : V} {T : String} {b : Bool} {Q : VK} (h : Dp K H v d) (k : kitB (tyd d) T = some b) (q : Q (.bl b) H) : rIsi K [v, .ty T] H Q :=
  ⟨v, .ty T, _, _, b, rfl, .ty T, Dp.tyx h, kit_ty k, q⟩
def kB : PyData → Bool
  | .bool _ => true
  | _ => false
def kI : PyData → Bool
  | .int _ => true
  | .bool _ => true
  | _ => false
theorem kit_int (d : PyData) : kitB (tyd d) "int" = some (kI d) := by
  cases d with
  | none => exact (by decide +kernel : kitB "NoneType" "int" = some false)
  | bool _ => exact (by decide +kernel : kitB "bool" "int" = some true)
  | int _ => exact (by decide +kernel : kitB "int" "int" = some true)
  | str _ => exact (by decide +kernel : kitB "str" "int" = some false)
  | list _ => exact (by decide +kernel : kitB "list" "int" = some false)
  | tuple _ => exact (by decide +kernel : kitB "tuple" "int" = some false)
  | dict _ => exact (by decide +kernel : kitB "dict" "int" = some false)
theorem kit_bool (d : PyData) : kitB (tyd d) "bool" = some (kB d) := by
  cases d with
  | none => exact (by decide +kernel : kitB "NoneType" "bool" = some false)
  | bool _ => exact (by decide +kernel : kitB "bool" "bool" = some true)
  | int _ => exact (by decide +kernel : kitB "int" "bool" = some false)
  | str _ => exact (by decide +kernel : kitB "str" "bool" = some false)
  | list _ => exact (by decide +kernel : kitB "list" "bool" = some false)
  | tuple _ => exact (by decide +kernel : kitB "tuple" "bool" = some false)
  | dict _ => exact (by decide +kernel : kitB "dict" "bool" = some false)
def kT : PyData → Bool
  | .tuple _ => true
  | _ => false
theorem kit_tup (d : PyData) : kitB (tyd d) "tuple" = some (kT d) := by
  cases d with
  | none => exact (by decide +kernel : kitB "NoneType" "tuple" = some false)
  | bool _ => exact (by decide +kernel : kitB "bool" "tuple" = some false)
  | int _ => exact (by decide +kernel : kitB "int" "tuple" = some false)
  | str _ => exact (by decide +kernel : kitB "str" "tuple" = some false)
  | list _ => exact (by decide +kernel : kitB "list" "tuple" = some false)
  | tuple _ => exact (by decide +kernel : kitB "tuple" "tuple" = some true)
  | dict _ => exact (by decide +kernel : kitB "dict" "tuple" = some false)
theorem isInt_eq (d : PyData) : (kI d && !kB d) = isInt d := by
  cases d <;> rfl
mutual
theorem dp_same {K : PySem.W.Frag} {H H' : Hp} (s : Same H H') : ∀ {d : PyData} {v : V}, Dp K H v d → Dp K H' v d
  | .none, _, .non => .non
  | .bool _, _, .bl b => .bl b
  | .int _, _, .int i => .int i
  | .str _, _, .str x => .str x
  | .list _, _, .lst q a => .lst (s.seq q) (dpall_same s a)
  | .tuple _, _, .tup q a => .tup (same_sqt s q) (dpall_same s a)
theorem dpall_same {K : PySem.W.Frag} {H H' : Hp} (s : Same H H') : ∀ {ds : List PyData} {vs : List V}, DpAll K H vs ds → DpAll K H' vs ds
  | [], _, .nil => .nil
  | _ :: _, _, .cons a b => .cons (dp_same s a) (dpall_same s b)
end
theorem dpall_len {K : PySem.W.Frag} {H : Hp} : ∀ {ds : List PyData} {vs : List V}, DpAll K H vs ds → vs.length = ds.length
  | [], _, .nil => rfl
  | _ :: _, _, .cons _ b => by rw [List.length_cons, List.length_cons, dpall_len b]
theorem dpall_get {K : PySem.W.Frag} {H : Hp} : ∀ {ds : List PyData} {vs : List V} {i : Nat} {v : V}, DpAll K H vs ds → vs[i]? = some v → ∃ d, ds[i]? = some d ∧ Dp K H v d
  | [], _, _, _, .nil, h => by simp at h
  | d :: _, _, 0, v, .cons a _, h => by
    have := Option.some.inj h
    subst this
    exact ⟨d, rfl, a⟩
  | _ :: _, _, i + 1, v, .cons _ b, h => dpall_get (i := i) b h
theorem dpall_drop {K : PySem.W.Frag} {H : Hp} : ∀ {n : Nat} {ds : List PyData} {vs : List V}, DpAll K H vs ds → DpAll K H (vs.drop n) (ds.drop n)
  | 0, _, _, h => h
  | _ + 1, [], _, .nil => by simpa using (.nil : DpAll K H [] [])
  | n + 1, _ :: _, _, .cons _ b => by
    rw [List.drop_succ_cons, List.drop_succ_cons]
    exact dpall_drop b
theorem dpall_snoc {K : PySem.W.Frag} {H : Hp} {v : V} {d : PyData} (x : Dp K H v d) : ∀ {ds : List PyData} {vs : List V}, DpAll K H vs ds → DpAll K H (vs ++ [v]) (ds ++ [d])
  | [], _, .nil => .cons x .nil
  | _ :: _, _, .cons a b => .cons a (dpall_snoc x b)
/-! ### kinds of places, words, shapes -/
inductive Kd where
  | part | sign | figure | place | factor | line
  deriving DecidableEq
def kdn : Kd → Str
  | .part => "part"
  | .sign => "sign"
  | .figure => "figure"
  | .place => "place"
  | .factor => "factor"
  | .line => "line"
def bndE : Kd → Int × Int
  | .part => (0, 0)
  | .sign => (0, 0)
  | .figure => (-1000, 1000)
  | .place => (0, 3)
  | .factor => (-9, 9)
  | .line => (1, 1000)
inductive We where
  | fig | reg | share | two (w : W4) | times | by | when | whr
  deriving DecidableEq
def wen : We → Str
  | .fig => "fig"
  | .reg => "reg"
  | .share => "share"
  | .two w => wn w
  | .times => "times"
  | .by => "by"
  | .when => "when"
  | .whr => "where"
def wsh : We → List Kd
  | .fig => [.figure]
  | .reg => [.place]
  | .share => [.sign]
  | .two _ => [.part, .part]
  | .times => [.factor, .part]
  | .by => [.place, .part]
  | .when => [.place, .figure, .part, .part]
  | .whr => [.sign, .line, .part, .part]
def weOf (x : Str) : Option We :=
  if x = "fig" then some .fig else if x = "reg" then some .reg else if x = "share" then some .share else if x = "sum" then some (.two .sum) else if x = "less" then some (.two .less)
  else if x = "least" then some (.two .least) else if x = "most" then some (.two .most) else if x = "times" then some .times else if x = "by" then some .by else if x = "when" then some .when else if x = "where" then some .whr else none
theorem weOf_wen (w : We) : weOf (wen w) = some w := by
  cases w with
  | two o => cases o <;> decide
  | _ => decide
inductive Wb where
  | op (w : D5) | when
def wbn : Wb → Str
  | .op w => dn w
  | .when => "when"
def wbsh : Wb → List Kd
  | .op .put => [.place, .figure]
  | .op .add => [.place, .figure]
  | .op .copy => [.place, .place]
  | .op .plus => [.place, .place]
  | .op .told => [.place, .sign]
  | .when => [.place, .figure, .part, .part]
def wbOf (x : Str) : Option Wb :=
  if x = "put" then some (.op .put) else if x = "add" then some (.op .add) else if x = "copy" then some (.op .copy) else if x = "plus" then some (.op .plus) else if x = "told" then some (.op .told) else if x = "when" then some .when else none
theorem wbOf_wbn (w : Wb) : wbOf (wbn w) = some w := by
  cases w with
  | op o => cases o <;> rfl
  | when => rfl
theorem wsh_len (w : We) : (wsh w).length ≤ 4 := by
  cases w with
  | two o => exact (by decide : 2 ≤ 4)
  | _ => decide
theorem wbsh_len (w : Wb) : (wbsh w).length ≤ 4 := by
  cases w with
  | op o => cases o <;> decide
  | when => decide
/-! ### what fits -/
def inD (lo hi : Int) : PyData → Bool
  | .int i => decide (lo ≤ i) && decide (i ≤ hi)
  | _ => false
def fitD (many : Int) : Kd → PyData → Bool
  | .part, _ => true
  | .sign, d => inD 0 (many - 1) d
  | .figure, d => inD (-1000) 1000 d
  | .place, d => inD 0 3 d
  | .factor, d => inD (-9) 9 d
  | .line, d => inD 1 1000 d
def fitsD (many : Int) : List Kd → List PyData → Bool
  | k :: ks, d :: ds => fitD many k d && fitsD many ks ds
  | [], [] => true
  | _, _ => false
theorem fitsD_len {many : Int} : ∀ {ks : List Kd} {ds : List PyData}, fitsD many ks ds = true → ds.length = ks.length
  | [], [], _ => rfl
  | _ :: _, _ :: _, h => by
    unfold fitsD at h
    rw [Bool.and_eq_true] at h
    rw [List.length_cons, List.length_cons, fitsD_len h.2]
  | [], _ :: _, h => by cases h
  | _ :: _, [], h => by cases h
theorem fitsD_ne {many : Int} {ks : List Kd} {ds : List PyData} (h : ds.length ≠ ks.length) : fitsD many ks ds = false := by
  cases e : fitsD many ks ds with
  | false => rfl
  | true => exact absurd (fitsD_len e) h
theorem fitsD_zip {many : Int} : ∀ {ks : List Kd} {ds : List PyData}, ds.length = ks.length → fitsD many ks ds = (List.zipWith (fitD many) ks ds).all id
  | [], [], _ => rfl
  | k :: ks, d :: ds, h => by
    rw [List.zipWith_cons_cons, List.all_cons, ← fitsD_zip (by simpa using h)]
    rfl
  | [], _ :: _, h => by simp at h
  | _ :: _, [], h => by simp at h
def partsD : List Kd → List PyData → List PyData
  | k :: ks, d :: ds => if k = .part then d :: partsD ks ds else partsD ks ds
  | _, _ => []
theorem partsD_len : ∀ (ks : List Kd) (ds : List PyData), (partsD ks ds).length ≤ ds.length
  | [], _ => Nat.zero_le _
  | _ :: _, [] => Nat.zero_le _
  | k :: ks, d :: ds => by
    have := partsD_len ks ds
    unfold partsD
    split <;> simp only [List.length_cons] <;> omega
theorem partsD_snoc : ∀ {ks : List Kd} {ds : List PyData} {i : Nat} {k : Kd} {d : PyData}, ks[i]? = some k → ds[i]? = some d → partsD (ks.take (i + 1)) (ds.take (i + 1)) = partsD (ks.take i) (ds.take i) ++ (if k = .part then [d] else [])
  | [], _, i, _, _, h, _ => by simp at h
  | _ :: _, [], i, _, _, _, h => by simp at h
  | k0 :: ks, d0 :: ds, 0, k, d, h, h2 => by
    have e1 : k0 = k := Option.some.inj h
    have e2 : d0 = d := Option.some.inj h2
    subst e1 e2
    simp [partsD]
  | k0 :: ks, d0 :: ds, i + 1, k, d, h, h2 => by
    have ih := partsD_snoc (ks := ks) (ds := ds) (i := i) h h2
    rw [List.take_succ_cons, List.take_succ_cons, List.take_succ_cons, List.take_succ_cons]
    unfold partsD
    split
    · rw [ih, List.cons_append]
    · exact ih
/-! ### how many parts, deeds -/
def addE : Nat → List Nat → Nat
  | t, [] => t
  | t, i :: r => if i = 0 then 0 else addE (t + i) r
def cntE (many : Int) : Nat → PyData → Nat
  | 0, _ => 0
  | k + 1, d => match d with
    | .tuple (.str x :: ds) => match weOf x with
      | some w => if fitsD many (wsh w) ds = true then addE 1 ((partsD (wsh w) ds).map (cntE many k)) else 0
      | none => 0
    | _ => 0
theorem cntE_eq (many : Int) (k : Nat) (w : We) (ds : List PyData) : cntE many (k + 1) (.tuple (.str (wen w) :: ds)) = if fitsD many (wsh w) ds = true then addE 1 ((partsD (wsh w) ds).map (cntE many k)) else 0 := by
  unfold cntE
  simp only [weOf_wen]
def wdE (many : Int) : Nat → PyData → Prop
  | 0, d => ∃ w ds, d = .tuple (.str (wen w) :: ds)
  | k + 1, d => ∃ w ds, d = .tuple (.str (wen w) :: ds) ∧ (fitsD many (wsh w) ds = true → ∀ x ∈ partsD (wsh w) ds, wdE many k x)
def isEx (many : Int) (d : PyData) : Bool := decide (1 ≤ cntE many 8 d) && decide (cntE many 8 d ≤ 40)
def exD : Nat → PyData → Ex
  | 0, _ => .fig 0
  | k + 1, d => match d with
    | .tuple (.str x :: ds) => match weOf x, ds with
      | some .fig, [.int c] => .fig c
      | some .reg, [.int i] => .reg i.toNat
      | some .share, [.int j] => .share j.toNat
      | some (.two w), [a, b] => .two w (exD k a) (exD k b)
      | some .times, [.int f, a] => .times f (exD k a)
      | some .by, [.int i, a] => .by i.toNat (exD k a)
      | some .when, [.int i, .int c, a, b] => .when i.toNat c (exD k a) (exD k b)
      | some .whr, [.int i, .int c, a, b] => .whr i.toNat c (exD k a) (exD k b)
      | _, _ => .fig 0
    | _ => .fig 0
def stakeD (many : Int) (sc : Nat) (d : PyData) : Bool := isEx many d && (decide (-(500 * pw2 sc) ≤ (spn (exD 8 d)).1) && decide ((spn (exD 8 d)).2 ≤ 500 * pw2 sc))
def addB : Nat → List (Option Nat) → Option Nat
  | t, [] => some t
  | _, none :: _ => none
  | t, some i :: r => addB (t + i) r
def sumB : Nat → List (Option Nat) → Option Nat
  | t, [] => some t
  | _, none :: _ => none
  | t, some i :: r => if 20 < t + i then none else sumB (t + i) r
def deedD (many : Int) (f : PyData → Option Nat) : PyData → Option Nat
  | .tuple (.str x :: ds) => match wbOf x with
    | some w => if fitsD many (wbsh w) ds = true then addB 1 ((ds.drop 2).map f) else none
    | none => none
  | _ => none
theorem deedD_eq (many : Int) (f : PyData → Option Nat) (w : Wb) (ds : List PyData) : deedD many f (.tuple (.str (wbn w) :: ds)) = if fitsD many (wbsh w) ds = true then addB 1 ((ds.drop 2).map f) else none := by
  unfold deedD
  simp only [wbOf_wbn]
def cntB (many : Int) : Nat → PyData → Option Nat
  | 0, d => match d with
    | .tuple [] => some 0
    | _ => none
  | k + 1, d => match d with
    | .tuple ds => sumB 0 (ds.map (deedD many (cntB many k)))
    | _ => none
def wdB (many : Int) : Nat → PyData → Prop
  | 0, _ => True
  | k + 1, d => ∀ ds, d = .tuple ds → ∀ x ∈ ds, ∃ w es, x = .tuple (.str (wbn w) :: es) ∧ (fitsD many (wbsh w) es = true → ∀ y ∈ es.drop 2, wdB many k y)
def optV : Option Nat → V
  | none => .non
  | some n => .int (n : Int)
def nameD (z : Str) : Bool := (decide (1 ≤ z.length) && decide (z.length ≤ 8)) && (z.cps.toList.all fun c => decide (c ∈ ("abcdefghijklmnopqrstuvwxyz" : Str).cps.toList))
def regsD (ds : List PyData) : Bool := decide (ds.length = 4) && ds.all (inD (-1000) 1000)
def dbtD (many : Nat) (nm : Str) (sc : Int) (rg st bh : List PyData) : Bool :=
  if (nameD nm && (decide (0 ≤ sc) && decide (sc ≤ 4)) && regsD rg) = true then (decide (st.length = many) && st.all (stakeD many sc.toNat)) && (decide (bh.length = many) && bh.all fun d => (cntB many 4 d).isSome) else false
/-! ### the tables -/
def TabE (K : PySem.W.Frag) (w : World) (a : Addr) : Prop := (a == sysModules) = false ∧ ∀ x : We, ∃ q, KDct K w a (wen x) (.ref q) ∧ ∀ H, SqT K H q ((wsh x).map fun k => V.str (kdn k))
def TabB (K : PySem.W.Frag) (w : World) (a : Addr) : Prop := (a == sysModules) = false ∧ ∀ x : Wb, ∃ q, KDct K w a (wbn x) (.ref q) ∧ ∀ H, SqT K H q ((wbsh x).map fun k => V.str (kdn k))
def TabN (K : PySem.W.Frag) (w : World) (a : Addr) : Prop := ∀ k : Kd, k ≠ .part → k ≠ .sign → ∃ q, KDct K w a (kdn k) (.ref q) ∧ ∀ H, SqT K H q [.int (bndE k).1, .int (bndE k).2]
theorem TabE.of {K : PySem.W.Frag} {w : World} {a : Addr} (h : Shapes K w a) (l : (a == sysModules) = false) : TabE K w a := ⟨l, fun x => by
  cases x with
  | fig => exact h (.fig 0)
  | reg => exact h (.reg 0)
  | share => exact h (.share 0)
  | two o => exact h (.two o (.fig 0) (.fig 0))
  | times => exact h (.times 0 (.fig 0))
  | «by» => exact h (.by 0 (.fig 0))
  | when => exact h (.when 0 0 (.fig 0) (.fig 0))
  | whr => exact h (.whr 0 0 (.fig 0) (.fig 0))⟩
/-! ### data of expressions -/
theorem ExAt.of {K : PySem.W.Frag} {H : Hp} : ∀ {e : Ex} {v : V}, Dp K H v (toD e) → ExAt K H e v := by
  intro e
  induction e with
  | fig c => intro v h; unfold toD at h; cases h with | tup q a => cases a with | cons a b => cases a; cases b with | cons a b => cases a; cases b; exact ⟨_, rfl, q⟩
  | reg c => intro v h; unfold toD at h; cases h with | tup q a => cases a with | cons a b => cases a; cases b with | cons a b => cases a; cases b; exact ⟨_, rfl, q⟩
  | share c => intro v h; unfold toD at h; cases h with | tup q a => cases a with | cons a b => cases a; cases b with | cons a b => cases a; cases b; exact ⟨_, rfl, q⟩
  | two w x y ihx ihy => intro v h; unfold toD at h; cases h with | tup q a => cases a with | cons a b => cases a; cases b with | cons a b => cases b with | cons c b => cases b; exact ⟨_, _, _, rfl, q, ihx a, ihy c⟩
  | times f x ih => intro v h; unfold toD at h; cases h with | tup q a => cases a with | cons a b => cases a; cases b with | cons a b => cases a; cases b with | cons c b => cases b; exact ⟨_, _, rfl, q, ih c⟩
  | «by» f x ih => intro v h; unfold toD at h; cases h with | tup q a => cases a with | cons a b => cases a; cases b with | cons a b => cases a; cases b with | cons c b => cases b; exact ⟨_, _, rfl, q, ih c⟩
  | when i c x y ihx ihy => intro v h; unfold toD at h; cases h with | tup q a => cases a with | cons a b => cases a; cases b with | cons a b => cases a; cases b with | cons a b => cases a; cases b with | cons d b => cases b with | cons e b => cases b; exact ⟨_, _, _, rfl, q, ihx d, ihy e⟩
  | whr i c x y ihx ihy => intro v h; unfold toD at h; cases h with | tup q a => cases a with | cons a b => cases a; cases b with | cons a b => cases a; cases b with | cons a b => cases a; cases b with | cons d b => cases b with | cons e b => cases b; exact ⟨_, _, _, rfl, q, ihx d, ihy e⟩
theorem inD_int {lo hi : Int} {d : PyData} (h : inD lo hi d = true) : ∃ i, d = .int i ∧ lo ≤ i ∧ i ≤ hi := by
  cases d with
  | int i =>
    unfold inD at h
    rw [Bool.and_eq_true, decide_eq_true_eq, decide_eq_true_eq] at h
    exact ⟨i, rfl, h.1, h.2⟩
  | _ => cases h
theorem addE_pos : ∀ {l : List Nat} {t : Nat}, 0 < addE t l → ∀ i ∈ l, 0 < i
  | [], _, _, i, h => by cases h
  | j :: r, t, h, i, hi => by
    unfold addE at h
    split at h
    · omega
    · rcases List.mem_cons.mp hi with rfl | hi
      · omega
      · exact addE_pos h i hi
theorem exD_of {many : Nat} : ∀ {k : Nat} {d : PyData}, 0 < cntE many k d → toD (exD k d) = d ∧ ExOk many (exD k d) ∧ (exD k d).dep ≤ k
  | 0, _, h => by exact absurd h (by unfold cntE; omega)
  | k + 1, d, h => by
    match d, h with
    | .tuple (.str x :: ds), h =>
      unfold cntE at h
      simp only at h
      cases hw : weOf x with
      | none => rw [hw] at h; simp at h
      | some w =>
        rw [hw] at h
        simp only at h
        by_cases hf : fitsD many (wsh w) ds = true
        · rw [if_pos hf] at h
          have hp := addE_pos h
          have hx : x = wen w := by
            unfold weOf at hw
            repeat' split at hw
            all_goals first | (cases hw; assumption) | cases hw
          subst hx
          have ih : ∀ {y : PyData}, y ∈ partsD (wsh w) ds → toD (exD k y) = y ∧ ExOk many (exD k y) ∧ (exD k y).dep ≤ k := fun hy => exD_of (hp _ (List.mem_map.mpr ⟨_, hy, rfl⟩))
          have hl := fitsD_len hf
          unfold exD
          simp only [weOf_wen]
          cases w with
          | fig =>
            match ds, hl with
            | [a], _ =>
              simp only [wsh, fitsD, fitD, Bool.and_true] at hf
              obtain ⟨i, rfl, h1, h2⟩ := inD_int hf
              exact ⟨rfl, ⟨h1, h2⟩, by show 1 ≤ k + 1; omega⟩
          | reg =>
            match ds, hl with
            | [a], _ =>
              simp only [wsh, fitsD, fitD, Bool.and_true] at hf
              obtain ⟨i, rfl, h1, h2⟩ := inD_int hf
              exact ⟨by show PyData.tuple [.str "reg", .int ((i.toNat : Nat) : Int)] = _; rw [Int.toNat_of_nonneg h1]; rfl, by show i.toNat < 4; omega, by show 1 ≤ k + 1; omega⟩
          | share =>
            match ds, hl with
            | [a], _ =>
              simp only [wsh, fitsD, fitD, Bool.and_true] at hf
              obtain ⟨i, rfl, h1, h2⟩ := inD_int hf
              exact ⟨by show PyData.tuple [.str "share", .int ((i.toNat : Nat) : Int)] = _; rw [Int.toNat_of_nonneg h1]; rfl, by show i.toNat < many; omega, by show 1 ≤ k + 1; omega⟩
          | two o =>
            match ds, hl with
            | [a, b], _ =>
              have ha := ih (y := a) (by simp [wsh, partsD])
              have hb := ih (y := b) (by simp [wsh, partsD])
              exact ⟨by show PyData.tuple [.str (wn o), toD (exD k a), toD (exD k b)] = _; rw [ha.1, hb.1]; rfl, ⟨ha.2.1, hb.2.1⟩, by show max (exD k a).dep (exD k b).dep + 1 ≤ k + 1; omega⟩
          | times =>
            match ds, hl with
            | [a, b], _ =>
              have hb := ih (y := b) (by simp [wsh, partsD])
              simp only [wsh, fitsD, fitD, Bool.and_true] at hf
              obtain ⟨i, rfl, h1, h2⟩ := inD_int hf
              exact ⟨by show PyData.tuple [.str "times", .int i, toD (exD k b)] = _; rw [hb.1]; rfl, ⟨⟨h1, h2⟩, hb.2.1⟩, by show (exD k b).dep + 1 ≤ k + 1; omega⟩
          | «by» =>
            match ds, hl with
            | [a, b], _ =>
              have hb := ih (y := b) (by simp [wsh, partsD])
              simp only [wsh, fitsD, fitD, Bool.and_true] at hf
              obtain ⟨i, rfl, h1, h2⟩ := inD_int hf
              exact ⟨by show PyData.tuple [.str "by", .int ((i.toNat : Nat) : Int), toD (exD k b)] = _; rw [hb.1, Int.toNat_of_nonneg h1]; rfl, ⟨by show i.toNat < 4; omega, hb.2.1⟩, by show (exD k b).dep + 1 ≤ k + 1; omega⟩
          | when =>
            match ds, hl with
            | [a, b, c, e], _ =>
              have hc := ih (y := c) (by simp [wsh, partsD])
              have he := ih (y := e) (by simp [wsh, partsD])
              simp only [wsh, fitsD, fitD, Bool.and_true, Bool.and_eq_true] at hf
              obtain ⟨i, rfl, h1, h2⟩ := inD_int hf.1
              obtain ⟨j, rfl, h3, h4⟩ := inD_int hf.2
              exact ⟨by show PyData.tuple [.str "when", .int ((i.toNat : Nat) : Int), .int j, toD (exD k c), toD (exD k e)] = _; rw [hc.1, he.1, Int.toNat_of_nonneg h1]; rfl, ⟨by show i.toNat < 4; omega, ⟨h3, h4⟩, hc.2.1, he.2.1⟩, by show max (exD k c).dep (exD k e).dep + 1 ≤ k + 1; omega⟩
          | whr =>
            match ds, hl with
            | [a, b, c, e], _ =>
              have hc := ih (y := c) (by simp [wsh, partsD])
              have he := ih (y := e) (by simp [wsh, partsD])
              simp only [wsh, fitsD, fitD, Bool.and_true, Bool.and_eq_true] at hf
              obtain ⟨i, rfl, h1, h2⟩ := inD_int hf.1
              obtain ⟨j, rfl, h3, h4⟩ := inD_int hf.2
              exact ⟨by show PyData.tuple [.str "where", .int ((i.toNat : Nat) : Int), .int j, toD (exD k c), toD (exD k e)] = _; rw [hc.1, he.1, Int.toNat_of_nonneg h1]; rfl, ⟨by show i.toNat < many; omega, ⟨h3, h4⟩, hc.2.1, he.2.1⟩, by show max (exD k c).dep (exD k e).dep + 1 ≤ k + 1; omega⟩
        · rw [if_neg hf] at h
          omega
    | .tuple [], h => simp [cntE] at h
    | .tuple (.none :: _), h => simp [cntE] at h
    | .tuple (.bool _ :: _), h => simp [cntE] at h
    | .tuple (.int _ :: _), h => simp [cntE] at h
    | .tuple (.list _ :: _), h => simp [cntE] at h
    | .tuple (.tuple _ :: _), h => simp [cntE] at h
    | .tuple (.dict _ :: _), h => simp [cntE] at h
    | .none, h => simp [cntE] at h
    | .bool _, h => simp [cntE] at h
    | .int _, h => simp [cntE] at h
    | .str _, h => simp [cntE] at h
    | .list _, h => simp [cntE] at h
    | .dict _, h => simp [cntE] at h
theorem dep_pos' : ∀ e : Ex, 1 ≤ e.dep
  | .fig _ => Nat.le_refl _
  | .reg _ => Nat.le_refl _
  | .share _ => Nat.le_refl _
  | .two _ a b => by show 1 ≤ max a.dep b.dep + 1; omega
  | .times _ a => by show 1 ≤ a.dep + 1; omega
  | .by _ a => by show 1 ≤ a.dep + 1; omega
  | .when _ _ a b => by show 1 ≤ max a.dep b.dep + 1; omega
  | .whr _ _ a b => by show 1 ≤ max a.dep b.dep + 1; omega
def Ex.size : Ex → Nat
  | .fig _ => 1
  | .reg _ => 1
  | .share _ => 1
  | .two _ a b => 1 + a.size + b.size
  | .times _ a => 1 + a.size
  | .by _ a => 1 + a.size
  | .when _ _ a b => 1 + a.size + b.size
  | .whr _ _ a b => 1 + a.size + b.size
theorem inD_of {lo hi i : Int} (h1 : lo ≤ i) (h2 : i ≤ hi) : inD lo hi (.int i) = true := by
  show (decide (lo ≤ i) && decide (i ≤ hi)) = true
  rw [decide_eq_true h1, decide_eq_true h2]
  rfl
theorem size_pos : ∀ e : Ex, 0 < e.size
  | .fig _ => Nat.one_pos
  | .reg _ => Nat.one_pos
  | .share _ => Nat.one_pos
  | .two _ a b => by show 0 < 1 + a.size + b.size; omega
  | .times _ a => by show 0 < 1 + a.size; omega
  | .by _ a => by show 0 < 1 + a.size; omega
  | .when _ _ a b => by show 0 < 1 + a.size + b.size; omega
  | .whr _ _ a b => by show 0 < 1 + a.size + b.size; omega
def weE : Ex → We
  | .fig _ => .fig
  | .reg _ => .reg
  | .share _ => .share
  | .two w _ _ => .two w
  | .times _ _ => .times
  | .by _ _ => .by
  | .when _ _ _ _ => .when
  | .whr _ _ _ _ => .whr
def itE : Ex → List PyData
  | .fig c => [.int c]
  | .reg i => [.int (i : Int)]
  | .share j => [.int (j : Int)]
  | .two _ a b => [toD a, toD b]
  | .times f a => [.int f, toD a]
  | .by i a => [.int (i : Int), toD a]
  | .when i c a b => [.int (i : Int), .int c, toD a, toD b]
  | .whr j c a b => [.int (j : Int), .int c, toD a, toD b]
theorem toD_eq : ∀ e : Ex, toD e = .tuple (.str (wen (weE e)) :: itE e)
  | .fig _ => rfl
  | .reg _ => rfl
  | .share _ => rfl
  | .two _ _ _ => rfl
  | .times _ _ => rfl
  | .by _ _ => rfl
  | .when _ _ _ _ => rfl
  | .whr _ _ _ _ => rfl
theorem itE_fits {many : Nat} : ∀ {e : Ex}, ExOk many e → fitsD many (wsh (weE e)) (itE e) = true
  | .fig c, h => by simp only [weE, wsh, itE, fitsD, fitD]; rw [inD_of h.1 h.2]; rfl
  | .reg i, h => by
    have h : i < 4 := h
    simp only [weE, wsh, itE, fitsD, fitD]; rw [inD_of (by omega) (by omega)]; rfl
  | .share j, h => by
    have h : j < many := h
    simp only [weE, wsh, itE, fitsD, fitD]; rw [inD_of (by omega) (by omega)]; rfl
  | .two w a b, h => rfl
  | .times f a, h => by simp only [weE, wsh, itE, fitsD, fitD]; rw [inD_of h.1.1 h.1.2]; rfl
  | .by i a, h => by
    have h1 : i < 4 := h.1
    simp only [weE, wsh, itE, fitsD, fitD]; rw [inD_of (by omega) (by omega)]; rfl
  | .when i c a b, h => by
    have h1 : i < 4 := h.1
    simp only [weE, wsh, itE, fitsD, fitD]; rw [inD_of (by omega) (by omega), inD_of h.2.1.1 h.2.1.2]; rfl
  | .whr j c a b, h => by
    have h1 : j < many := h.1
    simp only [weE, wsh, itE, fitsD, fitD]; rw [inD_of (by omega) (by omega), inD_of h.2.1.1 h.2.1.2]; rfl
theorem itE_parts : ∀ e : Ex, partsD (wsh (weE e)) (itE e) = e.kids.map toD
  | .fig _ => rfl
  | .reg _ => rfl
  | .share _ => rfl
  | .two _ _ _ => rfl
  | .times _ _ => rfl
  | .by _ _ => rfl
  | .when _ _ _ _ => rfl
  | .whr _ _ _ _ => rfl
theorem wdE_of {many : Nat} : ∀ {k : Nat} {e : Ex}, ExOk many e → wdE many k (toD e)
  | 0, e, _ => ⟨weE e, itE e, toD_eq e⟩
  | k + 1, e, h => ⟨weE e, itE e, toD_eq e, fun _ x hx => by
    rw [itE_parts] at hx
    obtain ⟨y, hy, rfl⟩ := List.mem_map.mp hx
    exact wdE_of (kids_ok e y h hy)⟩
theorem cntE_of {many : Nat} : ∀ {k : Nat} {e : Ex}, ExOk many e → e.dep ≤ k → cntE many k (toD e) = e.size
  | 0, e, _, h => absurd h (by have := dep_pos' e; omega)
  | k + 1, e, h, hd => by
    rw [toD_eq, cntE_eq, if_pos (itE_fits h), itE_parts, List.map_map]
    have ih : ∀ y ∈ e.kids, cntE many k (toD y) = y.size := fun y hy => cntE_of (kids_ok e y h hy) (by have := kids_dep e y hy; omega)
    rw [show e.kids.map (cntE many k ∘ toD) = e.kids.map Ex.size from List.map_congr_left ih]
    cases e with
    | fig => rfl
    | reg => rfl
    | share => rfl
    | two w a b =>
      have := size_pos a
      have := size_pos b
      show addE 1 [a.size, b.size] = 1 + a.size + b.size
      simp only [addE]
      rw [if_neg (by omega), if_neg (by omega)]
    | times f a =>
      have := size_pos a
      show addE 1 [a.size] = 1 + a.size
      simp only [addE]
      rw [if_neg (by omega)]
    | «by» f a =>
      have := size_pos a
      show addE 1 [a.size] = 1 + a.size
      simp only [addE]
      rw [if_neg (by omega)]
    | when i c a b =>
      have := size_pos a
      have := size_pos b
      show addE 1 [a.size, b.size] = 1 + a.size + b.size
      simp only [addE]
      rw [if_neg (by omega), if_neg (by omega)]
    | whr i c a b =>
      have := size_pos a
      have := size_pos b
      show addE 1 [a.size, b.size] = 1 + a.size + b.size
      simp only [addE]
      rw [if_neg (by omega), if_neg (by omega)]
theorem exD_toD : ∀ {k : Nat} {e : Ex}, e.dep ≤ k → exD k (toD e) = e
  | 0, e, h => absurd h (by have := dep_pos' e; omega)
  | k + 1, e, h => by
    rw [toD_eq]
    unfold exD
    simp only [weOf_wen]
    cases e with
    | fig c => rfl
    | reg i => rfl
    | share j => rfl
    | two w a b =>
      have h : max a.dep b.dep + 1 ≤ k + 1 := h
      show Ex.two w (exD k (toD a)) (exD k (toD b)) = _
      rw [exD_toD (e := a) (by omega), exD_toD (e := b) (by omega)]
    | times f a =>
      have h : a.dep + 1 ≤ k + 1 := h
      show Ex.times f (exD k (toD a)) = _
      rw [exD_toD (e := a) (by omega)]
    | «by» f a =>
      have h : a.dep + 1 ≤ k + 1 := h
      show Ex.by f (exD k (toD a)) = _
      rw [exD_toD (e := a) (by omega)]
    | when i c a b =>
      have h : max a.dep b.dep + 1 ≤ k + 1 := h
      show Ex.when i c (exD k (toD a)) (exD k (toD b)) = _
      rw [exD_toD (e := a) (by omega), exD_toD (e := b) (by omega)]
    | whr i c a b =>
      have h : max a.dep b.dep + 1 ≤ k + 1 := h
      show Ex.whr i c (exD k (toD a)) (exD k (toD b)) = _
      rw [exD_toD (e := a) (by omega), exD_toD (e := b) (by omega)]
/-- a stake that is one -/
theorem stakeD_of {many sc : Nat} {e : Ex} (h : ExOk many e) (hd : e.dep ≤ 8) : stakeD many sc (toD e) = (decide (e.size ≤ 40) && (decide (-(500 * pw2 sc) ≤ (spn e).1) && decide ((spn e).2 ≤ 500 * pw2 sc))) := by
  unfold stakeD isEx
  rw [cntE_of h hd, exD_toD hd, decide_eq_true (show 1 ≤ e.size from size_pos e), Bool.true_and]
end NG

namespace NG
open PySem PySem.Spec PyProof.Rows L2
/-! ### repr of a number, a truth or None -/
def shV : V → Option Str
  | .int i => if i.natAbs.log2 < 1920 then some (Str.ofString (toString i)) else none
  | .bl b => some (if b = true then Str.ofString "True" else Str.ofString "False")
  | .non => some (Str.ofString "None")
  | _ => none
def rReprV : List V → Hp → VK → Prop := fun vs H Q => ∃ (v : V) (x : Str), vs = [v] ∧ shV v = some x ∧ Q (.str x) H
theorem cr_reprV {X : Cx} : CallR X (.builtin "repr") rReprV := by
  intro pins s σ H vs us Q I r h
  obtain ⟨v, x, rfl, hx, q⟩ := h
  obtain ⟨u, rfl, t⟩ := vals1 r
  cases v with
  | int i =>
    have hx : (if i.natAbs.log2 < 1920 then some (Str.ofString (toString i)) else none) = some x := hx
    by_cases hz : i.natAbs.log2 < 1920
    · rw [if_pos hz] at hx
      have hx := Option.some.inj hx
      subst hx
      obtain ⟨t, rfl⟩ := t
      exact PySem.P.repr_of_int hz ⟨.str _, H, I.tok (s.toks + 1), ⟨_, rfl⟩, q⟩
    · rw [if_neg hz] at hx
      cases hx
  | bl b =>
    cases hx
    have t : u = Value.bool b := t
    subst t
    exact PySem.P.repr_of_bool ⟨.str _, H, I.tok (s.toks + 1), ⟨_, rfl⟩, q⟩
  | non =>
    cases hx
    have t : u = Value.none := t
    subst t
    exact PySem.P.repr_of_none ⟨.str _, H, I.tok (s.toks + 1), ⟨_, rfl⟩, q⟩
  | _ => cases hx
theorem shV_int {i : Int} (h : i.natAbs < 2 ^ 1000) : ∃ x, shV (.int i) = some x := by
  refine ⟨Str.ofString (toString i), ?_⟩
  show (if i.natAbs.log2 < 1920 then some (Str.ofString (toString i)) else none) = _
  rw [if_pos]
  by_cases h0 : i.natAbs = 0
  · rw [h0]; decide
  · have := (Nat.log2_lt h0).mpr h
    omega
/-! ### one promise out of another -/
theorem FnOk.mono {P : Program} {w : World} {K : PySem.W.Frag} {mg : Str → Option Value} {base : Heap} {CX : CXT} {k : Nat} {f : Addr} {fd : FuncData} {ps : List Str} {sp sp' : Sp} (F : FnOk P w K mg base CX k f fd ps sp) (h : ∀ vs H Q E, sp' vs H Q E → sp vs H Q E) : FnOk P w K mg base CX k f fd ps sp' :=
  ⟨fun vs H Q E x => F.len vs H Q E (h vs H Q E x), fun A outer s H args us vs Q E r e b v x => F.run A outer s H args us vs Q E r e b v (h vs H Q E x)⟩
end NG

namespace NG
open PySem PySem.Spec PyProof.Rows L2
/-! ### things of any kind: as Dp, and empty dicts -/
mutual
inductive Dq (K : PySem.W.Frag) (H : Hp) : V → PyData → Prop
  | non : Dq K H .non .none
  | bl (b : Bool) : Dq K H (.bl b) (.bool b)
  | int (i : Int) : Dq K H (.int i) (.int i)
  | str (x : Str) : Dq K H (.str x) (.str x)
  | lst {a : Addr} {xs : List V} {ds : List PyData} : SqL K H a xs → DqAll K H xs ds → Dq K H (.ref a) (.list ds)
  | tup {a : Addr} {xs : List V} {ds : List PyData} : SqT K H a xs → DqAll K H xs ds → Dq K H (.ref a) (.tuple ds)
  | dic {a : Addr} : H a = some (.dK []) → Dq K H (.ref a) (.dict [])
inductive DqAll (K : PySem.W.Frag) (H : Hp) : List V → List PyData → Prop
  | nil : DqAll K H [] []
  | cons {v : V} {vs : List V} {d : PyData} {ds : List PyData} : Dq K H v d → DqAll K H vs ds → DqAll K H (v :: vs) (d :: ds)
end
mutual
theorem dq_of {K : PySem.W.Frag} {H : Hp} : ∀ {d : PyData} {v : V}, Dp K H v d → Dq K H v d
  | .none, _, .non => .non
  | .bool _, _, .bl b => .bl b
  | .int _, _, .int i => .int i
  | .str _, _, .str x => .str x
  | .list _, _, .lst q a => .lst q (dqall_of a)
  | .tuple _, _, .tup q a => .tup q (dqall_of a)
theorem dqall_of {K : PySem.W.Frag} {H : Hp} : ∀ {ds : List PyData} {vs : List V}, DpAll K H vs ds → DqAll K H vs ds
  | [], _, .nil => .nil
  | _ :: _, _, .cons a b => .cons (dq_of a) (dqall_of b)
end
mutual
theorem dq_same {K : PySem.W.Frag} {H H' : Hp} (s : Same H H') : ∀ {d : PyData} {v : V}, Dq K H v d → Dq K H' v d
  | .none, _, .non => .non
  | .bool _, _, .bl b => .bl b
  | .int _, _, .int i => .int i
  | .str _, _, .str x => .str x
  | .list _, _, .lst q a => .lst (s.seq q) (dqall_same s a)
  | .tuple _, _, .tup q a => .tup (same_sqt s q) (dqall_same s a)
  | .dict _, _, .dic h => .dic (s _ _ h)
theorem dqall_same {K : PySem.W.Frag} {H H' : Hp} (s : Same H H') : ∀ {ds : List PyData} {vs : List V}, DqAll K H vs ds → DqAll K H' vs ds
  | [], _, .nil => .nil
  | _ :: _, _, .cons a b => .cons (dq_same s a) (dqall_same s b)
end
theorem dqall_len {K : PySem.W.Frag} {H : Hp} : ∀ {ds : List PyData} {vs : List V}, DqAll K H vs ds → vs.length = ds.length
  | [], _, .nil => rfl
  | _ :: _, _, .cons _ b => by rw [List.length_cons, List.length_cons, dqall_len b]
theorem dqall_get {K : PySem.W.Frag} {H : Hp} : ∀ {ds : List PyData} {vs : List V} {i : Nat} {v : V}, DqAll K H vs ds → vs[i]? = some v → ∃ d, ds[i]? = some d ∧ Dq K H v d
  | [], _, _, _, .nil, h => by simp at h
  | d :: _, _, 0, v, .cons a _, h => by
    have := Option.some.inj h
    subst this
    exact ⟨d, rfl, a⟩
  | _ :: _, _, i + 1, v, .cons _ b, h => dqall_get (i := i) b h
theorem dqall_drop {K : PySem.W.Frag} {H : Hp} : ∀ {n : Nat} {ds : List PyData} {vs : List V}, DqAll K H vs ds → DqAll K H (vs.drop n) (ds.drop n)
  | 0, _, _, h => h
  | _ + 1, [], _, .nil => by simpa using (.nil : DqAll K H [] [])
  | n + 1, _ :: _, _, .cons _ b => by
    rw [List.drop_succ_cons, List.drop_succ_cons]
    exact dqall_drop b
theorem dqall_take {K : PySem.W.Frag} {H : Hp} : ∀ {n : Nat} {ds : List PyData} {vs : List V}, DqAll K H vs ds → DqAll K H (vs.take n) (ds.take n)
  | 0, _, _, _ => .nil
  | _ + 1, [], _, .nil => by simpa using (.nil : DqAll K H [] [])
  | n + 1, _ :: _, _, .cons a b => by
    rw [List.take_succ_cons, List.take_succ_cons]
    exact .cons a (dqall_take b)
theorem dqall_app {K : PySem.W.Frag} {H : Hp} {es : List PyData} {us : List V} (x : DqAll K H us es) : ∀ {ds : List PyData} {vs : List V}, DqAll K H vs ds → DqAll K H (vs ++ us) (ds ++ es)
  | [], _, .nil => x
  | _ :: _, _, .cons a b => .cons a (dqall_app x b)
theorem dqall_mem {K : PySem.W.Frag} {H : Hp} : ∀ {ds : List PyData} {vs : List V}, DqAll K H vs ds → ∀ v ∈ vs, ∃ d ∈ ds, Dq K H v d
  | [], _, .nil, v, h => by cases h
  | d :: _, _, .cons a b, v, h => by
    rcases List.mem_cons.mp h with rfl | h
    · exact ⟨d, List.mem_cons_self, a⟩
    · obtain ⟨e, he, q⟩ := dqall_mem b v h
      exact ⟨e, List.mem_cons_of_mem _ he, q⟩
theorem dq_ints {K : PySem.W.Frag} {H : Hp} : ∀ (ns : List Int), DqAll K H (ns.map V.int) (ns.map PyData.int)
  | [] => .nil
  | n :: ns => .cons (.int n) (dq_ints ns)
theorem Dq.tyx {K : PySem.W.Frag} {H : Hp} {d : PyData} {v : V} (h : Dq K H v d) : TyX K H v (.type (tyd d)) := by
  cases h with
  | non => exact .base .non
  | bl b => exact .base (.bl b)
  | int i => exact .base (.int i)
  | str x => exact .base (.str x)
  | lst q _ =>
    rcases q with (q | ⟨o, q⟩) | ⟨o, its, n, h1, h2, _⟩
    · exact .base (.lst q)
    · exact .base (.frz q)
    · exact .kList h1 h2
  | tup q _ => exact tyx_tup q
  | dic q => exact .base (.dK q)
theorem rIsi_q {K : PySem.W.Frag} {H : Hp} {d : PyData} {v : V} {T : String} {b : Bool} {Q : VK} (h : Dq K H v d) (k : kitB (tyd d) T = some b) (q : Q (.bl b) H) : rIsi K [v, .ty T] H Q :=
  ⟨v, .ty T, _, _, b, rfl, .ty T, Dq.tyx h, kit_ty k, q⟩
/-! ### reading them -/
mutual
inductive RdD (h : Heap) : Value → PyData → Prop
  | none : RdD h .none .none
  | bool (b) : RdD h (.bool b) (.bool b)
  | int (i t) : RdD h (.int i t) (.int i)
  | str (x t) : RdD h (.str x t) (.str x)
  | list {a o vs n xs} : h.get? a = some o → o.cls = .type "list" → o.data = .seq vs n → RdDs h vs.toList xs → RdD h (.ref a) (.list xs)
  | tuple {a o vs n xs} : h.get? a = some o → o.cls = .type "tuple" → o.data = .seq vs n → RdDs h vs.toList xs → RdD h (.ref a) (.tuple xs)
  | dict {a o es n} : h.get? a = some o → o.cls = .type "dict" → o.data = .dict es n → es.toList = [] → (a == sysModules) = false → RdD h (.ref a) (.dict [])
inductive RdDs (h : Heap) : List Value → List PyData → Prop
  | nil : RdDs h [] []
  | cons {v vs d ds} : RdD h v d → RdDs h vs ds → RdDs h (v :: vs) (d :: ds)
end
mutual
theorem RdD.reads {h : Heap} : ∀ {d : PyData} {v : Value}, RdD h v d → ∃ as, Reads h v d as
  | .none, _, .none => ⟨_, .none⟩
  | .bool _, _, .bool b => ⟨_, .bool b⟩
  | .int _, _, .int i t => ⟨_, .int i t⟩
  | .str _, _, .str x t => ⟨_, .str x t⟩
  | .list _, _, .list h1 h2 h3 h4 => by
    obtain ⟨as, r⟩ := RdDs.reads h4
    exact ⟨_, .list h1 h2 h3 r⟩
  | .tuple _, _, .tuple h1 h2 h3 h4 => by
    obtain ⟨as, r⟩ := RdDs.reads h4
    exact ⟨_, .tuple h1 h2 h3 r⟩
  | .dict _, _, .dict h1 h2 h3 h4 _ => ⟨_, .dict h1 h2 h3 (by rw [h4]; exact .nil) (by rw [h4]; exact .nil)⟩
theorem RdDs.reads {h : Heap} : ∀ {ds : List PyData} {vs : List Value}, RdDs h vs ds → ∃ as, ReadsAll h vs ds as
  | [], _, .nil => ⟨_, .nil⟩
  | _ :: _, _, .cons a b => by
    obtain ⟨as, r⟩ := RdD.reads a
    obtain ⟨bs, r2⟩ := RdDs.reads b
    exact ⟨_, .cons r r2⟩
end
section
variable {prog : Program} {w : World} {h₀ : Heap}
mutual
theorem reprK_rdd : ∀ {d : PyData} {v : Value}, RdD h₀ v d → d.showable = true → d.shown.length ≤ sizeLine → ∃ bs, ReadAtMost h₀ d.depth bs ∧ ReprK prog w bs h₀ d.depth v d.shown
  | .none, _, .none, _, _ => ⟨[], (fun _ h => nomatch h), by simp only [PyData.shown]; exact .of_is ReprIs.none _ _ _⟩
  | .bool _, _, .bool b, _, _ => ⟨[], (fun _ h => nomatch h), by simp only [PyData.shown]; exact .of_is (ReprIs.bool b) _ _ _⟩
  | .int _, _, .int i t, hs, _ => ⟨[], (fun _ h => nomatch h), by simp only [PyData.shown]; exact .of_is (ReprIs.int t (by simpa [PyData.showable] using hs)) _ _ _⟩
  | .str _, _, .str x t, _, hz => ⟨[], (fun _ h => nomatch h), by simp only [PyData.shown]; exact .of_is (ReprIs.str x t (by simpa only [PyData.shown] using hz)) _ _ _⟩
  | .list xs, _, .list (a := a) (vs := vs) h1 h2 h3 h4, hs, hz => by
    have hz' : (listText (PyData.shownAll xs)).length ≤ sizeLine := by simpa only [PyData.shown] using hz
    obtain ⟨bs, hb, hk⟩ := reprK_rdds h4 (by simpa [PyData.showable] using hs) (fun t ht => Nat.le_trans (listText_mem_le ht) hz')
    obtain ⟨as, r⟩ := RdD.reads (.list h1 h2 h3 h4)
    have hna : a ∉ bs := not_mem_of_deeper r (by simp only [PyData.depth]; omega) hb
    refine ⟨a :: bs, ReadAtMost.cons r (by simp only [PyData.depth]; omega) hb, ?_⟩
    simp only [PyData.depth, PyData.shown]
    obtain ⟨l⟩ := vs
    cases l with
    | nil =>
      have h4' : RdDs h₀ [] xs := h4
      cases h4'
      simp only [PyData.shownAll, listText_nil]
      exact ReprK.listEmpty h1 h2 h3
    | cons x l => exact ReprK.list h1 h2 h3 hna (by simpa using hk.length_eq) (fun i y e => hk.item i y (by simpa using e))
  | .tuple xs, _, .tuple (a := a) h1 h2 h3 h4, hs, hz => by
    have hz' : (tupleText (PyData.shownAll xs)).length ≤ sizeLine := by simpa only [PyData.shown] using hz
    obtain ⟨bs, hb, hk⟩ := reprK_rdds h4 (by simpa [PyData.showable] using hs) (fun t ht => Nat.le_trans (tupleText_mem_le ht) hz')
    obtain ⟨as, r⟩ := RdD.reads (.tuple h1 h2 h3 h4)
    have hna : a ∉ bs := not_mem_of_deeper r (by simp only [PyData.depth]; omega) hb
    refine ⟨a :: bs, ReadAtMost.cons r (by simp only [PyData.depth]; omega) hb, ?_⟩
    simp only [PyData.depth, PyData.shown]
    exact ReprK.tuple h1 h2 h3 hna hk
  | .dict _, _, .dict (a := a) (es := es) h1 h2 h3 h4 h5, hs, hz => by
    obtain ⟨as, r⟩ := RdD.reads (.dict h1 h2 h3 h4 h5)
    refine ⟨a :: [], ReadAtMost.cons r (Nat.zero_le _) (fun _ h => nomatch h), ?_⟩
    simp only [PyData.depth, PyData.shown, PyData.shownKv_eq]
    exact ReprK.dict (as := []) h1 h2 h3 h5 (by simp) (ReprEntriesK.of_two es.toList _ _ (by rw [h4]; exact .nil) (by rw [h4]; exact .nil))
theorem reprK_rdds : ∀ {ds : List PyData} {vs : List Value}, RdDs h₀ vs ds → PyData.showableAll ds = true → (∀ t ∈ PyData.shownAll ds, t.length ≤ sizeLine) →
    ∃ bs, ReadAtMost h₀ (PyData.depthAll ds) bs ∧ ReprAllK prog w bs h₀ (PyData.depthAll ds) vs (PyData.shownAll ds)
  | [], _, .nil, _, _ => ⟨[], (fun _ h => nomatch h), by simp only [PyData.shownAll]; exact .nil⟩
  | d :: ds, _, .cons r rs, hs, hz => by
    have hs' : d.showable = true ∧ PyData.showableAll ds = true := by simpa [PyData.showableAll] using hs
    obtain ⟨b1, hb1, k1⟩ := reprK_rdd r hs'.1 (hz _ (by simp only [PyData.shownAll]; exact List.mem_cons_self ..))
    obtain ⟨b2, hb2, k2⟩ := reprK_rdds rs hs'.2 (fun t ht => hz t (by simp only [PyData.shownAll]; exact List.mem_cons_of_mem _ ht))
    refine ⟨b1 ++ b2, ?_, ?_⟩
    · intro b hm
      simp only [PyData.depthAll]
      rcases List.mem_append.mp hm with hm | hm
      · obtain ⟨d', as', r', hd'⟩ := hb1 b hm
        exact ⟨d', as', r', Nat.le_trans hd' (Nat.le_max_left _ _)⟩
      · obtain ⟨d', as', r', hd'⟩ := hb2 b hm
        exact ⟨d', as', r', Nat.le_trans hd' (Nat.le_max_right _ _)⟩
    · simp only [PyData.depthAll, PyData.shownAll]
      exact .cons ((k1.more fun b hb => List.mem_append_left _ hb).level_le (Nat.le_max_left _ _)) (k2.more_le (fun b hb => List.mem_append_right _ hb) (Nat.le_max_right _ _))
end
theorem showsBy_rdd {a : Addr} {d : PyData} (r : RdD h₀ (.ref a) d) (hs : d.showable = true) (hsz : d.shown.length ≤ sizeLine) : ∃ T idr, ShowsBy prog w h₀ a d T idr := by
  cases r with
  | list h1 h2 h3 h4 =>
    rename_i o vs n xs
    have hz' : (listText (PyData.shownAll xs)).length ≤ sizeLine := by simpa only [PyData.shown] using hsz
    obtain ⟨bs, hb, hk⟩ := reprK_rdds (prog := prog) (w := w) h4 (by simpa [PyData.showable] using hs) (fun t ht => Nat.le_trans (listText_mem_le ht) hz')
    obtain ⟨as, r⟩ := RdD.reads (.list h1 h2 h3 h4)
    have hna : a ∉ bs := not_mem_of_deeper r (by simp only [PyData.depth]; omega) hb
    refine ⟨"list", "list.__repr__", F.slot_list_repr.toG, F.slot_list_str, F.slot_list_format, fun s hk0 => ⟨o, hk0 _ _ h1, h2⟩, fun A E s Q hg hu hk0 hQ => ?_⟩
    simp only [PyData.depth] at hu
    simp only [PyData.shown] at hQ
    obtain ⟨l⟩ := vs
    cases l with
    | nil =>
      have h4' : RdDs h₀ [] xs := h4
      cases h4'
      simp only [PyData.shownAll, listText_nil] at hQ
      exact call_list_repr_empty ⟨o, hk0 _ _ h1, h2⟩ (hk0 _ _ h1) h3 (hQ s.heap _ _ fun _ _ e => e)
    | cons x l =>
      exact call_list_reprK h1 h2 h3 hna (by simpa using hk.length_eq) (fun i y e => hk.item i y (by simpa using e)) hg (fun b _ => Clear.nil b) hu hk0 hQ hz'
  | tuple h1 h2 h3 h4 =>
    rename_i o vs n xs
    have hz' : (tupleText (PyData.shownAll xs)).length ≤ sizeLine := by simpa only [PyData.shown] using hsz
    obtain ⟨bs, hb, hk⟩ := reprK_rdds (prog := prog) (w := w) h4 (by simpa [PyData.showable] using hs) (fun t ht => Nat.le_trans (tupleText_mem_le ht) hz')
    obtain ⟨as, r⟩ := RdD.reads (.tuple h1 h2 h3 h4)
    have hna : a ∉ bs := not_mem_of_deeper r (by simp only [PyData.depth]; omega) hb
    refine ⟨"tuple", "tuple.__repr__", F.slot_tuple_repr, F.slot_tuple_str, F.slot_tuple_format, fun s hk0 => ⟨o, hk0 _ _ h1, h2⟩, fun A E s Q hg hu hk0 hQ => ?_⟩
    simp only [PyData.depth] at hu
    simp only [PyData.shown] at hQ
    exact call_tuple_reprK h1 h2 h3 hna hk hg (fun b _ => Clear.nil b) hu hk0 hQ hz'
  | dict h1 h2 h3 h4 h5 =>
    rename_i o es n
    refine ⟨"dict", "dict.__repr__", F.slot_dict_repr, F.slot_dict_str, F.slot_dict_format, fun s hk0 => ⟨o, hk0 _ _ h1, h2⟩, fun A E s Q hg hu hk0 hQ => ?_⟩
    simp only [PyData.depth] at hu
    simp only [PyData.shown, PyData.shownKv_eq] at hQ
    have hz' : (dictText (PyData.shownKv [])).length ≤ sizeLine := by simpa only [PyData.shown] using hsz
    exact call_dict_reprK (as := []) h1 h2 h3 h5 (by simp) (ReprEntriesK.of_two es.toList _ _ (by rw [h4]; exact .nil) (by rw [h4]; exact .nil)) hg (fun b _ => Clear.nil b) hu hk0 hQ (by rw [← PyData.shownKv_eq]; exact hz')
end
section
variable {X : Cx} {pins : List (Addr × Obj)} {σ : L2.St} {H : Hp} {s : Shared}
mutual
theorem Dq.rdd (I : Inv X pins σ H s) : ∀ (d : PyData) (v : V) (u : Value), Dq X.K H v d → RelV v u → RdD s.heap u d
  | .none, _, _, h, r => by
    cases h
    cases r
    exact .none
  | .bool b, _, _, h, r => by
    cases h
    cases r
    exact .bool b
  | .int i, _, _, h, r => by
    cases h
    obtain ⟨t, rfl⟩ := r
    exact .int i t
  | .str x, _, _, h, r => by
    cases h
    obtain ⟨t, rfl⟩ := r
    exact .str x t
  | .list ds, _, _, h, r => by
    cases h with
    | lst hs ha =>
      cases r
      obtain ⟨its, rv, ⟨o, n, ho, hc, _, hd⟩, _⟩ := I.list hs
      exact .list ho hc hd (Dq.rdds I ds _ its ha rv)
  | .tuple ds, _, _, h, r => by
    cases h with
    | tup hs ha =>
      cases r
      obtain ⟨its, rv, ⟨o, ho, hc, n, hd⟩, _⟩ := I.tuple hs
      exact .tuple ho hc hd (Dq.rdds I ds _ its ha rv)
  | .dict _, _, _, h, r => by
    cases h with
    | dic hx =>
      cases r
      obtain ⟨_, hn, vs, hk, o, es, ep, ho, hx2, hd, _, hp, _⟩ := dk_of I.hok hx
      cases hk
      refine .dict ho hx2.1 hd ?_ hn
      have := Pairs.length hp
      exact List.length_eq_zero_iff.mp this
theorem Dq.rdds (I : Inv X pins σ H s) : ∀ (ds : List PyData) (vs : List V) (us : List Value), DqAll X.K H vs ds → Vals vs us → RdDs s.heap us ds
  | [], _, _, h, r => by
    cases h
    cases r
    exact .nil
  | d :: ds, _, _, h, r => by
    cases h with
    | cons h1 h2 =>
      cases r with
      | cons r1 r2 => exact .cons (Dq.rdd I d _ _ h1 r1) (Dq.rdds I ds _ _ h2 r2)
end
end
def rReprQ (K : PySem.W.Frag) : List V → Hp → VK → Prop := fun vs H Q => ∃ (v : V) (d : PyData), vs = [v] ∧ Dq K H v d ∧ d.showable = true ∧ d.depth ≤ 60 ∧ d.shown.length ≤ sizeLine ∧ Q (.str d.shown) H
theorem cr_reprQ {X : Cx} (hg : X.A.guards = some []) (hu : X.A.units + 64 < cLine) : CallR X (.builtin "repr") (rReprQ X.K) := by
  intro pins s σ H vs us Q I r h
  obtain ⟨v, d, rfl, hd, hs, hz, hl, q⟩ := h
  obtain ⟨u, rfl, t⟩ := vals1 r
  have rd := Dq.rdd I d v u hd t
  cases rd with
  | none => simp only [PyData.shown] at q; exact PySem.P.repr_of_none ⟨.str _, H, I.tok (s.toks + 1), ⟨_, rfl⟩, q⟩
  | bool b => simp only [PyData.shown] at q; exact PySem.P.repr_of_bool ⟨.str _, H, I.tok (s.toks + 1), ⟨_, rfl⟩, q⟩
  | int i t => simp only [PyData.shown] at q; exact PySem.P.repr_of_int (by simpa [PyData.showable] using hs) ⟨.str _, H, I.tok (s.toks + 1), ⟨_, rfl⟩, q⟩
  | str x t => simp only [PyData.shown] at q hl; exact PySem.P.repr_of_str ⟨.str _, H, I.tok (s.toks + 1), ⟨_, rfl⟩, q⟩ hl
  | list h1 h2 h3 h4 =>
    obtain ⟨T, idr, S⟩ := showsBy_rdd (prog := X.prog) (w := X.w) (.list h1 h2 h3 h4) hs hl
    exact call_repr_slot (by omega) (S.typeIs s fun _ _ e => e) S.slotRepr (S.call _ _ s _ hg (by show X.A.units + 1 + _ < cLine; omega) (fun _ _ e => e) fun h' u tk hk => ⟨_, _, rfl, ⟨.str _, H, I.kept hk, ⟨_, rfl⟩, q⟩⟩)
  | tuple h1 h2 h3 h4 =>
    obtain ⟨T, idr, S⟩ := showsBy_rdd (prog := X.prog) (w := X.w) (.tuple h1 h2 h3 h4) hs hl
    exact call_repr_slot (by omega) (S.typeIs s fun _ _ e => e) S.slotRepr (S.call _ _ s _ hg (by show X.A.units + 1 + _ < cLine; omega) (fun _ _ e => e) fun h' u tk hk => ⟨_, _, rfl, ⟨.str _, H, I.kept hk, ⟨_, rfl⟩, q⟩⟩)
  | dict h1 h2 h3 h4 h5 =>
    obtain ⟨T, idr, S⟩ := showsBy_rdd (prog := X.prog) (w := X.w) (.dict h1 h2 h3 h4 h5) hs hl
    exact call_repr_slot (by omega) (S.typeIs s fun _ _ e => e) S.slotRepr (S.call _ _ s _ hg (by show X.A.units + 1 + _ < cLine; omega) (fun _ _ e => e) fun h' u tk hk => ⟨_, _, rfl, ⟨.str _, H, I.kept hk, ⟨_, rfl⟩, q⟩⟩)
end NG

namespace NG
open PySem PySem.Spec PyProof.Rows L2
/-! ### a heap without one object -/
def hide (a : Addr) (H : Hp) : Hp := fun b => if b = a then none else H b
theorem hide_ne {a b : Addr} {H : Hp} (h : b ≠ a) : hide a H b = H b := if_neg h
theorem hide_same {a : Addr} {H : Hp} : Same (hide a H) H := fun b o e => by
  unfold hide at e
  split at e
  · cases e
  · exact e
theorem hide_but {a : Addr} {H H' : Hp} (h : But a H H') : Same (hide a H) (hide a H') := fun b o e => by
  unfold hide at e ⊢
  split at e
  · cases e
  · rename_i hn
    rw [if_neg hn]
    exact h b o hn e
theorem hide_sqt {a p : Addr} {H : Hp} {K : PySem.W.Frag} {n : Nat} {xs : List V} (hh : HandAt H a n) (q : SqT K H p xs) : SqT K (hide a H) p xs := by
  obtain ⟨l, e⟩ := hh.some
  rcases q with (q | ⟨o, q⟩) | q
  · exact .inl (.inl ((hide_ne (ne_of q e (by intro z; cases z))).trans q))
  · exact .inl (.inr ⟨o, (hide_ne (ne_of q e (by intro z; cases z))).trans q⟩)
  · exact .inr q
theorem hide_at {a p : Addr} {H : Hp} {o : HO} (h : p ≠ a) (q : H p = some o) : hide a H p = some o := (hide_ne h).trans q
theorem Dq.shown {K : PySem.W.Frag} {H : Hp} {a : Addr} {d : PyData} {v : V} (h : Dq K (hide a H) v d) : Dq K H v d := dq_same hide_same h
theorem Dq.but {K : PySem.W.Frag} {H H' : Hp} {a : Addr} {d : PyData} {v : V} (h : Dq K (hide a H) v d) (b : But a H H') : Dq K (hide a H') v d := dq_same (hide_but b) h
theorem hide_same2 {a : Addr} {H H' : Hp} (h : Same H H') : Same (hide a H) (hide a H') := hide_but (But.of h)
/-! ### shown, of numbers below 10 ** 40 -/
theorem Shh.int40 {i : Int} (h : i.natAbs < 10 ^ 40) : Shh (.int i) 140 0 := by
  have hl : i.natAbs.log2 < 139 := PySem.Flt.log2_lt_of (by decide) (Nat.lt_trans h (by decide))
  refine ⟨?_, ?_, ?_, Nat.le_refl _⟩
  · show decide (i.natAbs.log2 < 1920) = true
    exact decide_eq_true (by omega)
  · show decide ((PyData.shown (.int i)).length ≤ 70) = true
    refine decide_eq_true ?_
    have e := int_text_length_le10 (k := 40) (by decide) h
    show (Str.ofString (toString i)).length ≤ 70
    rw [PySem.ofString_length]
    omega
  · show (if i == 0 then 0 else i.natAbs.log2 + 1) ≤ 140
    split <;> omega
theorem chars_of (s : String) : ((Str.ofString s).cps.toList.all fun c => decide (c < 16 ^ 8)) = true := by
  rw [Str.ofString_eq_toList, List.all_eq_true]
  intro c hc
  rw [List.toList_toArray] at hc
  obtain ⟨x, _, rfl⟩ := List.mem_map.mp hc
  have h := x.valid
  refine decide_eq_true ?_
  have : x.toNat < 4294967296 := x.val.toNat_lt
  omega
theorem Shh.sint {i : Int} (h : i.natAbs < 10 ^ 40) : Shh (.str (Str.ofString (toString i))) 41 0 := by
  refine ⟨rfl, chars_of _, ?_, Nat.le_refl _⟩
  have e := int_text_length_le10 (k := 40) (by decide) h
  show (Str.ofString (toString i)).length ≤ 41
  rw [PySem.ofString_length]
  exact e
theorem Shh.non : Shh .none 0 0 := ⟨rfl, rfl, Nat.le_refl _, Nat.le_refl _⟩
theorem Shh.bl (b : Bool) : Shh (.bool b) 0 0 := ⟨rfl, rfl, Nat.le_refl _, Nat.le_refl _⟩
theorem Shh.dic : Shh (.dict []) 0 1 := ⟨rfl, rfl, Nat.le_refl _, Nat.le_refl _⟩
theorem shh_all {f : PyData → Prop} {w k : Nat} : ∀ {ds : List PyData}, (∀ d ∈ ds, Shh d w k) → ShhAll ds (ds.length * (w + 1)) k
  | [], _ => by simpa using (ShhAll.nil : ShhAll [] 0 k)
  | d :: ds, h => by
    have h1 := h d List.mem_cons_self
    have h2 := shh_all (f := f) (ds := ds) fun x hx => h x (List.mem_cons_of_mem _ hx)
    refine (ShhAll.cons h1 h2 (Nat.le_refl _) (Nat.le_refl _)).mono ?_ (Nat.le_refl _)
    rw [List.length_cons, Nat.succ_mul]
    omega
end NG

set_option maxHeartbeats 2000000
namespace NG
open PySem PySem.Spec PyProof.Rows L2
/-! ### a written dict's keys: a text that may be none of them, None -/
def KdAt (K : PySem.W.Frag) (w : World) (d : Addr) : Prop := ∃ es n, K.lookup d = some ⟨.type "dict", none, .dict es n, #[]⟩ ∧ PySem.W.KeysLit w.params es.toList ∧ (d == sysModules) = false
def rInKq (K : PySem.W.Frag) (w : World) (neg : Bool) : R2 := fun x y H Q => ∃ d, y = .ref d ∧ KdAt K w d ∧ ((∃ z r, x = .str z ∧ PySem.W.nsIn K d z = some r ∧ Q (.bl (xor neg r.isSome)) H) ∨ (x = .non ∧ Q (.bl neg) H))
theorem none_mapK {P : Program} {w : World} {h : Heap} {K : PySem.W.Frag} {d : Addr} {es : Array DictEntry} {n : Nat} (X : K.In h) (hl : K.lookup d = some ⟨.type "dict", none, .dict es n, #[]⟩) (hk : PySem.W.KeysLit w.params es.toList) : ∃ f, h.MapOf (noneKind P w) d f ∧ f none = none := by
  refine ⟨fun k => findBy (noneKind P w).is es k, ⟨_, es, n, X _ _ hl, ⟨rfl, rfl, rfl⟩, rfl, fun e he => ?_, fun k => rfl⟩, ?_⟩
  · obtain ⟨x, t, e1, e2⟩ := hk.all e (Array.mem_toList_iff.mpr he)
    refine ⟨some (Sum.inr x), ?_, e2⟩
    rw [e1]
    exact kV_is (P := P) (w := w) (k := Sum.inr x) (u := .str x t) ⟨t, rfl⟩
  · have q : (es.find? fun e => nkIs none e.key) = none := by
      rw [Array.find?_eq_none]
      intro e he hq
      obtain ⟨x, t, e1, e2⟩ := hk.all e (Array.mem_toList_iff.mpr he)
      rw [e1] at hq
      cases hq
    show (es.find? fun e => nkIs none e.key).map (·.val) = none
    rw [q] <;> rfl
theorem op_inKq {X : Cx} : OpR X (compareOp .In) (rInKq X.K X.w false) := by
  intro pins s σ H x y v u Q I rx ry h
  obtain ⟨d, rfl, ⟨es, n, hl, hk, low⟩, h⟩ := h
  rcases h with ⟨z, r, rfl, e, q⟩ | ⟨rfl, q⟩
  · rw [Bool.false_xor] at q
    exact op_in_kd (X := X) ⟨hl, hk, low⟩ pins s σ H _ _ v u Q I rx ry ⟨z, r, rfl, rfl, e, q⟩
  · cases rx
    cases ry
    obtain ⟨f, hm, hf⟩ := none_mapK (P := X.prog) I.kIn hl hk
    refine wpAny_in_of (show (noneKind X.prog X.w).is none .none = true from rfl) low hm ?_
    rw [hf]
    exact ⟨.bl false, H, I.tok _, rfl, q⟩
theorem op_ninKq {X : Cx} : OpR X (compareOp .NotIn) (rInKq X.K X.w true) := by
  intro pins s σ H x y v u Q I rx ry h
  obtain ⟨d, rfl, ⟨es, n, hl, hk, low⟩, h⟩ := h
  rcases h with ⟨z, r, rfl, e, q⟩ | ⟨rfl, q⟩
  · rw [Bool.true_xor] at q
    exact op_notIn_kd (X := X) ⟨hl, hk, low⟩ pins s σ H _ _ v u Q I rx ry ⟨z, r, rfl, rfl, e, q⟩
  · cases rx
    cases ry
    obtain ⟨f, hm, hf⟩ := none_mapK (P := X.prog) I.kIn hl hk
    refine wpAny_notIn_of (show (noneKind X.prog X.w).is none .none = true from rfl) low hm ?_
    rw [hf]
    exact ⟨.bl true, H, I.tok _, rfl, q⟩
/-- what stands in the keys' row -/
def ktx (l : List DictEntry) : List (Option Str) := l.map fun e => match e.key with
  | .str x _ => some x
  | _ => none
theorem nsIn_absent {K : PySem.W.Frag} {w : World} {d : Addr} {es : Array DictEntry} {n : Nat} {x : Str} (hl : K.lookup d = some ⟨.type "dict", none, .dict es n, #[]⟩) (hk : PySem.W.KeysLit w.params es.toList) (h : some x ∉ ktx es.toList) : PySem.W.nsIn K d x = some none := by
  have key : ∀ e ∈ es.toList, e.key.isStr x = false ∧ e.refKey = false := fun e he => by
    obtain ⟨y, t, e1, e2⟩ := hk.all e he
    have hne : x ≠ y := fun z => h (by
      rw [z]
      exact List.mem_map.mpr ⟨e, he, by rw [e1]⟩)
    refine ⟨?_, ?_⟩
    · rw [e1]
      show (y == x) = false
      exact beq_eq_false_iff_ne.mpr fun z => hne z.symm
    · unfold DictEntry.refKey
      rw [e1]
  unfold PySem.W.nsIn
  rw [hl]
  dsimp only
  have h1 : es.toList.find? (·.key.isStr x) = none := List.find?_eq_none.mpr fun e he => by rw [(key e he).1]; exact Bool.false_ne_true
  rw [h1]
  dsimp only
  rw [if_neg]
  rw [List.any_eq_true]
  rintro ⟨e, he, q⟩
  rw [(key e he).2] at q
  cases q
/-! ### d.update(e), both with ints and texts as keys -/
def rDUpdate : V → List V → Hp → VK → Prop := fun x vs H Q => ∃ (a b : Addr) (ka kb : List (Key × V)), x = .ref a ∧ vs = [.ref b] ∧ a ≠ b ∧ H a = some (.dK ka) ∧ H b = some (.dK kb) ∧ ka.length + kb.length ≤ sizeLine ∧ Q .non (upd H a (.dK (mergeK ka kb)))
theorem mt_dupdate {X : Cx} : MtM X "dict.update" rDUpdate := by
  intro pins s σ H x vs v us Q I rx rv h
  obtain ⟨a, b, ka, kb, rfl, rfl, hab, ha, hb, hz, q⟩ := h
  cases rx
  obtain ⟨u, rfl, ru⟩ := rv.one
  cases ru
  obtain ⟨za, da, va, ra, dda⟩ := dk_of I.hok ha
  obtain ⟨zb, db, vb, rb, ddb⟩ := dk_of I.hok hb
  have l1 := ra.length
  have l2 := rb.length
  refine call_meetsIn F.slot_dict_update ?_ F.entry_dict_update ?_ (meets_dict_update (mixKind X.prog X.w) a b hab db) ⟨va, vb, dda, ddb, by omega, fun h' dd' _ hs => ?_⟩
  · exact let ⟨o, _, _, ho, hx, _⟩ := dda; ⟨o, ho, hx.1⟩
  · exact F.args_dict_update_2 _ _
  · have he : ∃ q, h'.get? a = some q := let ⟨q, _, _, hq, _⟩ := dd'; ⟨q, hq⟩
    have hl : (mergeK ka kb).length ≤ sizeLine := Nat.le_trans (length_mergeK kb ka) hz
    exact ⟨.non, _, d_write I (by rw [ha]; exact True.intro) hs he (dk_new hl da (KV.merge rb ra) dd'), rfl, q⟩
/-! ### t[::-1] of a tuple -/
theorem vals_rev' {xs : List V} {us : List Value} (r : Vals xs us) : Vals xs.reverse us.reverse := Vals.rev r
/-! ### t == () -/
def rEqE (K : PySem.W.Frag) : R2 := fun x y H Q => ∃ a b xs, x = .ref a ∧ y = .ref b ∧ SqT K H a xs ∧ SqT K H b [] ∧ Q (.bl xs.isEmpty) H
theorem op_eqE {X : Cx} (hu : X.A.units + 64 < cLine) : OpR X (compareOp .Eq) (rEqE X.K) := by
  intro pins s σ H x y v u Q I rx ry h
  obtain ⟨a, b, xs, rfl, rfl, ha, hb, q⟩ := h
  cases rx
  cases ry
  obtain ⟨its, r1, p1, _⟩ := I.tuple ha
  obtain ⟨its2, r2, p2, _⟩ := I.tuple hb
  cases r2
  refine PySem.W.eq_tuplesT (n := 0) (e := fun _ => true) p1 p2 (fun j h1 h2 => absurd h2 (by simp)) (by omega) ⟨.bl xs.isEmpty, H, I, ?_, q⟩
  have l := r1.length
  show Value.bool _ = Value.bool _
  cases xs with
  | nil => cases r1; rfl
  | cons z zs =>
    cases r1 with
    | cons _ _ => rfl
end NG

set_option maxHeartbeats 2000000
namespace NG
open PySem PySem.Spec PyProof.Rows L2
/-! ### zip of a text with a tuple -/
def sgV (x : Str) (i : Nat) : Option V := (x.cps[i]?).map fun c => V.str ⟨#[c]⟩
def ItST (K : PySem.W.Frag) (x : Str) (b : Addr) : It :=
  ⟨fun i H => ∃ (ws : List V) (u v : V), SqT K H b ws ∧ sgV x i = some u ∧ ws[i]? = some v,
   fun i H r H' => ∃ (T : Addr) (u v : V), r = .ref T ∧ H T = none ∧ H' = upd H T (.tup [u, v]) ∧ sgV x i = some u ∧ ∀ ws, SqT K H b ws → ws[i]? = some v,
   fun i H => ∃ ws : List V, SqT K H b ws ∧ x.cps.size = i ∧ ws.length = i⟩
theorem turn_ST {x0 : Str} {tk0 : Tok} {P : Program} {w : World} {K : PySem.W.Frag} {es : List Expr} {k : Nat} {ps : Pos} {b z TI TO i1 i2 : Addr} (S : ZipSep2 z TI TO i1 i2 [i1] [i2, b]) (nb : b ≠ i2) :
    Turn P w K (.Tuple es k ps) (ItST K x0 b) [z, TI, TO, i1, i2] z (fun i h => IsZip h z TI TO .none ∧ IsTupOf2 h TI (.ref i1) (.ref i2) ∧ (∃ c d, IsTupOf2 h TO c d) ∧ h.IsStrIter i1 (strIterType x0) x0 tk0 i ∧ h.IsTupleIter i2 b i) := by
  have five : ∀ {c : Addr}, c ∈ [z, TI, TO, i1, i2] → c = z ∨ c = TI ∨ c = TO ∨ c = i1 ∨ c = i2 := fun h => by simpa using h
  have lives : ∀ (i : Nat) (h : Heap), (IsZip h z TI TO .none ∧ IsTupOf2 h TI (.ref i1) (.ref i2) ∧ (∃ c d, IsTupOf2 h TO c d) ∧ h.IsStrIter i1 (strIterType x0) x0 tk0 i ∧ h.IsTupleIter i2 b i) → ∀ c ∈ [z, TI, TO, i1, i2], ∃ o, h.get? c = some o ∧ ∀ v, o.data ≠ .cell v := fun i h st c hc => by
    obtain ⟨s1, s2, ⟨x, y, s3⟩, ⟨o4, s4, _, d4⟩, ⟨o5, s5, _, d5⟩⟩ := st
    rcases five hc with rfl | rfl | rfl | rfl | rfl
    · exact ⟨_, s1, fun v q => nomatch q⟩
    · exact ⟨_, s2, fun v q => nomatch q⟩
    · exact ⟨_, s3, fun v q => nomatch q⟩
    · exact ⟨o4, s4, fun v q => by rw [d4] at q; exact nomatch q⟩
    · exact ⟨o5, s5, fun v q => by rw [d5] at q; exact nomatch q⟩
  refine ⟨List.mem_cons_self, lives, fun i h h' st kp => ?_, fun X eP ew eK hc i pins s σ H E I hf st hg => ?_, fun X eP ew eK hc i pins s σ H E I hf st hg => ?_, fun A i s Q E st q => wpAny_pyIter_zip st.1 q⟩
  · obtain ⟨s1, s2, ⟨x, y, s3⟩, s4, s5⟩ := st
    exact ⟨kp _ (by simp) _ s1, kp _ (by simp) _ s2, ⟨x, y, kp _ (by simp) _ s3⟩, let ⟨o, ho, r⟩ := s4; ⟨o, kp _ (by simp) o ho, r⟩, s5.at fun o q => kp _ (by simp) o q⟩
  · cases eP
    cases ew
    cases eK
    have lv := lives i _ st
    obtain ⟨s1, s2, s3, s4, s5⟩ := st
    obtain ⟨ws, u, v, qb, hu, hv⟩ := hg
    obtain ⟨lb, rb, pb, _⟩ := I.tuple qb
    obtain ⟨v', ev', rv⟩ := rb.get hv
    have W := WalksT.zipD2 (A := X.A) S (Draws.text (prog := X.prog) (w := X.w) (A := X.A.in1) (I.ok.hd hc) i1 x0 tk0) (Draws.tuple (A := X.A.in1) (I.ok.hd hc) i2 b nb lb.toArray)
    obtain ⟨c0, hc0, eu0⟩ : ∃ c, x0.cps[i]? = some c ∧ V.str ⟨#[c]⟩ = u := by
      unfold sgV at hu
      cases hq : x0.cps[i]? with
      | none => rw [hq] at hu; cases hu
      | some c => rw [hq] at hu; exact ⟨c, rfl, Option.some.inj hu⟩
    have il : i < x0.cps.size := (Array.getElem?_eq_some_iff.mp hc0).1
    have ir : i < lb.length := (List.getElem?_eq_some_iff.mp ev').1
    refine W.item i s _ E (by have hsz : lb.toArray.size = lb.length := List.size_toArray; omega) ⟨s1, s2, s3, s4, ⟨s5, pb⟩⟩ fun T vals h1 tk pv hT tT mid k1 => ⟨_, rfl, ?_⟩
    have apT := W.apart i T h1 mid
    refine W.go es k ps i T _ _ _ mid fun h2 st2 k2 => ?_
    obtain ⟨x1, x2, e1, e2, rfl⟩ := pv
    obtain ⟨c1, u1, hc1, ex1⟩ := e1
    have f1 : c1 = c0 := Option.some.inj (hc1.symm.trans hc0)
    have f2 : x2 = v' := by
      have := e2.symm.trans (show lb.toArray[i]? = some v' by simpa using ev')
      exact Option.some.inj this
    subst f1 f2 ex1
    have ru : RelV u (.str ⟨#[c1]⟩ u1) := by rw [← eu0]; exact ⟨u1, rfl⟩
    obtain ⟨z1, z2, z3, z4, ⟨z5, _⟩⟩ := st2
    have tT2 : h2.IsTuple T #[.str ⟨#[c1]⟩ u1, x2] := tT.at fun o e => k2 T o apT e
    have in5 : ∀ c, c ∉ [z, TI, TO, i1, i2] → c ∉ [z, TO, i1, i2] := fun c h m => h (by
      rcases (by simpa using m : c = z ∨ c = TO ∨ c = i1 ∨ c = i2) with rfl | rfl | rfl | rfl <;> simp)
    have J := I.turnedNew (h' := h2) (t' := tk) (ch := [z, TI, TO, i1, i2]) (T := T) (ob := .tup [u, v]) (fun c o hb' q => k2 c o (in5 c hb') (k1 c o (in5 c hb') q)) hf hT ⟨(by show 2 ≤ sizeLine; decide), [.str ⟨#[c1]⟩ u1, x2], .cons ru (.cons rv .nil), tT2⟩
    refine ⟨.ref T, _, J, rfl, ⟨T, u, v, rfl, I.hok.fresh hT, rfl, hu, fun l hl => ?_⟩, ⟨z1, z2, z3, z4, z5⟩, fun c hcm => ?_⟩
    · rw [I.tuple_inj hl qb]
      exact hv
    · obtain ⟨o, ho, _⟩ := lv c hcm
      have lt := Heap.lt_size ho
      rw [upd_ne (Nat.ne_of_lt (Nat.lt_of_lt_of_le lt hT))]
      exact (hf c hcm).1
  · cases eP
    cases ew
    cases eK
    obtain ⟨s1, s2, s3, s4, s5⟩ := st
    obtain ⟨ws, qb, e1, e2⟩ := hg
    obtain ⟨lb, rb, pb, _⟩ := I.tuple qb
    have W := WalksT.zipD2 (A := X.A) S (Draws.text (prog := X.prog) (w := X.w) (A := X.A.in1) (I.ok.hd hc) i1 x0 tk0) (Draws.tuple (A := X.A.in1) (I.ok.hd hc) i2 b nb lb.toArray)
    have l2 := rb.length
    have en : min x0.cps.size lb.toArray.size = i := by
      have hsz : lb.toArray.size = lb.length := List.size_toArray
      omega
    rw [en] at W
    refine W.done s _ E ⟨s1, s2, s3, s4, ⟨s5, pb⟩⟩ fun h1 tk k1 => ⟨rfl, ?_⟩
    exact I.turnedL (t' := tk) (ch := [z, TI, TO, i1, i2]) (fun c o hb' q => k1 c o (fun m => hb' (by rcases (by simpa using m : c = z ∨ c = TO ∨ c = i1 ∨ c = i2) with rfl | rfl | rfl | rfl <;> simp)) q) hf
def iZipST (K : PySem.W.Frag) (ta : TA) : TI := fun σ H R => ta σ H fun vs H1 => ∃ x b ws, vs = [.str x, .ref b] ∧ SqT K H1 b ws ∧ R (ItST K x b) H1
theorem pi_zipST {X : Cx} {e e2 : Expr} {ta : TA} {p pos tpos : Pos} {elts : List Expr} {kk : Nat} (hg : Gl X "zip") (hm : X.mg "zip" = none) (ha : PA X [e, e2] ta)
    (hs : starEach [e, e2] X.env = (false, eval e X.env) :: starEach [e2] X.env := by rfl) (hpl : (backTo pos (starEach [e2] X.env)).any (·.1) = false := by rfl) : PI X (.Tuple elts kk tpos) (.Call (.Name "zip" p) [e, e2] [] pos) (iZipST X.K ta) := by
  refine ⟨fun pins s σ H R I h => Call_ (ld_blt I hg hm PyProof.Rows.boot_zip (PyProof.Rows.callWith_type1 (thn (ha.run pos pins s σ H _ I h) fun us s1 ⟨vs, H1, I1, r1, q1⟩ => ?_) hs hpl))⟩
  obtain ⟨x0, b, wl, rfl, qb, q⟩ := q1
  obtain ⟨v1, v2, rfl, t1, t2⟩ := vals2 r1
  obtain ⟨tk0, rfl⟩ := t1
  cases t2
  obtain ⟨lb, rb, pb, _⟩ := I1.tuple qb
  obtain ⟨ob, hob, _⟩ := id pb
  have lt2 : b < s1.heap.objs.size := Heap.lt_size hob
  refine zip_begins2 (begins_text x0 tk0) (begins_tuple b lb.toArray) trivial pb fun h' hz hTI hTO g1 g2 hsz hk => wpAny_pyIter_zip hz ?_
  have J : Inv X pins σ H1 { s1 with heap := h' } := I1.kept (t' := s1.toks) hk
  have S := zip_sep2 (N := s1.heap.objs.size) (fp1 := []) (fp2 := [b]) (fun c hc => absurd hc (by simp)) (fun c hc => by rw [List.mem_singleton.mp hc]; exact lt2)
  refine ⟨_, _, _, _, H1, rfl, J, turn_ST S (Nat.ne_of_lt (Nat.lt_succ_of_lt lt2)), ⟨hz, hTI, ⟨_, _, hTO⟩, ⟨_, g1, rfl, rfl⟩, ⟨_, g2, rfl, rfl⟩⟩, fun c hcm => ?_, q⟩
  have le : s1.heap.objs.size ≤ c := by
    rcases (by simpa using hcm : c = s1.heap.objs.size + 4 ∨ c = s1.heap.objs.size + 2 ∨ c = s1.heap.objs.size + 3 ∨ c = s1.heap.objs.size ∨ c = s1.heap.objs.size + 1) with e | e | e | e | e <;> (rw [e]; first | exact Nat.le_refl _ | exact Nat.le_add_right _ _)
  exact I1.fpOk le (I1.hok.fresh le)
theorem walk_ST {K : PySem.W.Frag} {x : Str} {b : Addr} {ws : List V} {n : Nat} (hx : x.cps.size = n) (hy : ws.length = n) : Walk (ItST K x b) n (fun H => SqT K H b ws) (YPair (fun i => sgV x i) (fun i => ws[i]?)) := by
  refine ⟨fun i H hi q => ⟨ws, V.str ⟨#[x.cps[i]'(by omega)]⟩, ws[i]'(by omega), q, ?_, List.getElem?_eq_getElem _⟩, fun H q => ⟨ws, q, hx, hy⟩, fun i H v H' hi q y => ?_⟩
  · unfold sgV
    rw [Array.getElem?_eq_getElem (by omega)]
    rfl
  · obtain ⟨T, x, z, h1, h2, h3, h4, h5⟩ := y
    exact ⟨T, x, z, h1, h2, h3, h4, h5 ws q⟩
end NG

set_option maxHeartbeats 2000000
namespace PySem
namespace HT
open PySem PySem.Spec PyProof.Rows
theorem filterMap_same {α β : Type} {f g : α → Option β} : ∀ {l : List α}, (∀ m ∈ l, f m = g m) → l.filterMap f = l.filterMap g
  | [], _ => rfl
  | x :: l, h => by
    rw [List.filterMap_cons, List.filterMap_cons, h x List.mem_cons_self, filterMap_same fun m hm => h m (List.mem_cons_of_mem _ hm)]
section
variable {prog : Program} {w : World} {A : Around} {E : Value → Shared → Prop} {s : Shared}
theorem sliceApplied_rev {sl : Addr} {t0 : Tok} {n : Nat} {Q : Int × Int × Nat → Shared → Prop} (hs : s.heap.IsSliceOf sl .none .none (.int (-1) t0))
    (h : Q ((n : Int) - 1, -1, n) s) : wpAny (model prog w) A (Builtin.Slice.sliceApplied (.ref sl) (pure (n : Int))) Q E s := by
  obtain ⟨os, hos, hcs, hds⟩ := id hs
  unfold Builtin.Slice.sliceApplied Builtin.Slice.sliceFields
  refine wpAny_bind (wpAny_bind (wpAny_field hos hds (x := .none) rfl (wpAny_bind (wpAny_field hos hds (x := .none) rfl (wpAny_bind (wpAny_field hos hds (x := .int (-1) t0) rfl (wpAny_pure ?_)))))))
  refine wpAny_bind (slicePart_int ?_)
  show wpAny _ _ (if ((-1 : Int) == 0) = true then _ else _) _ _ s
  rw [if_neg (by decide)]
  refine wpAny_bind (slicePart_none (wpAny_bind (slicePart_none (wpAny_bind (wpAny_pure ?_)))))
  show wpAny _ _ (match Builtin.Slice.sliceAdjust none none (-1) (n : Int) with | (lo, hi) => pure (lo, (-1 : Int), Builtin.Slice.slicePlaces lo hi (-1))) _ _ s
  have e : Builtin.Slice.sliceAdjust none none (-1) (n : Int) = ((n : Int) - 1, -1) := by
    unfold Builtin.Slice.sliceAdjust
    simp
  rw [e]
  show wpAny _ _ (pure ((n : Int) - 1, (-1 : Int), Builtin.Slice.slicePlaces ((n : Int) - 1) (-1) (-1))) _ _ s
  have e2 : Builtin.Slice.slicePlaces ((n : Int) - 1) (-1) (-1) = n := by
    unfold Builtin.Slice.slicePlaces
    simp
    omega
  rw [e2]
  exact wpAny_pure h
theorem pick_rev (xs : Array Value) : ((List.range xs.size).filterMap fun (m : Nat) => xs[(((xs.size : Int) - 1) + (m : Int) * (-1)).toNat]?).toArray = xs.toList.reverse.toArray := by
  have e : ((List.range xs.size).filterMap fun (m : Nat) => xs[(((xs.size : Int) - 1) + (m : Int) * (-1)).toNat]?) = ((List.range xs.size).map fun k => xs.size - 1 - k).filterMap (xs[·]?) := by
    rw [List.filterMap_map]
    refine filterMap_same fun m hm => ?_
    have hm := List.mem_range.mp hm
    show xs[(((xs.size : Int) - 1) + (m : Int) * (-1)).toNat]? = xs[xs.size - 1 - m]?
    congr 1
    omega
  rw [e, PySem.W.krv_range, List.filterMap_reverse, PySem.W.krv_all]
theorem getItem_tuple_rev {t sl : Addr} {t0 : Tok} {items : Array Value} {Q : Value → Shared → Prop} (ht : IsTup s.heap t items) (hs : s.heap.IsSliceOf sl .none .none (.int (-1) t0))
    (h : Q (.ref s.heap.objs.size) { s with heap := s.heap.push { cls := .type "tuple", data := .seq items.toList.reverse.toArray } })
    (hsz : items.size ≤ sizeLine) : wpAny (model prog w) A (getItem (.ref t) (.ref sl)) Q E s := by
  have htake : sizeOk (.seq items.toList.reverse.toArray) := by
    show items.toList.reverse.toArray.size ≤ sizeLine
    rw [List.size_toArray, List.length_reverse, Array.length_toList]
    exact hsz
  obtain ⟨os, hos, hcs, hds⟩ := id hs
  have hTs : s.TypeIs (.ref sl) "slice" := ⟨os, hos, hcs⟩
  unfold getItem
  try with_reducible refine wpAny_holding ?_
  first | refine wpAny_bind (wpAny_pure ?_) | skip
  refine wpAny_bind (wpAny_sequenceKey ht.typeIs (by decide) ?_)
  refine wpAny_bind (wpAny_callSpecial?_slot (name := Str.ofString "__getitem__") ht.typeIs PyProof.Rows.slot_tuple_getitem
    (wpAny_call_entry PyProof.Rows.slot_tuple_getitem ht.typeIs entry_tuple_getitem ?_ (args_tuple_getitem _ _)))
  show wpAny _ _ (Builtin.Tuple.tupleItemsOf (.ref t) >>= _) _ _ s
  refine wpAny_bind (tupleItemsOf_ ht ?_)
  refine wpAny_bind (wpAny_typeOf hTs ?_)
  rw [if_pos (by decide)]
  refine wpAny_bind (sliceApplied_rev hs ?_)
  show wpAny _ _ (if ((((items.size : Int) - 1) == 0 && (-1 : Int) == 1 && items.size == items.size)) = true then _ else _) _ _ s
  rw [if_neg (by simp), pick_rev]
  first
    | exact wpAny_bind (m := Builtin.Tuple.tupleExact _) (wpAny_newObj_type (wpAny_pure ⟨_, rfl, wpAny_pure h⟩) htake)
    | exact wpAny_bind (m := Builtin.Tuple.tupleExact _) (wpAny_newObj_type (wpAny_bind (wpAny_pure (wpAny_pure ⟨_, rfl, wpAny_pure h⟩))) htake)
    | exact wpAny_bind (wpAny_bind (m := Builtin.Tuple.tupleExact _) (wpAny_newObj_type (wpAny_pure (wpAny_pure ⟨_, rfl, wpAny_pure h⟩)) htake))
    | exact wpAny_bind (wpAny_bind (m := Builtin.Tuple.tupleExact _) (wpAny_newObj_type (wpAny_pure ⟨_, rfl, wpAny_pure h⟩) htake))
end
end HT
end PySem
namespace NG
open PySem PySem.Spec PyProof.Rows L2
/-! ### a def without parameters -/
theorem pe_c0 {X : Cx} {k j : Nat} {x : Str} {sp : Sp} {p pos : Pos} (c : Cal X.prog X.w X.K X.mg X.base k x sp) (hr : Room j X.A) (hk : k ≤ j) (hg : Gl X x) (hdb : (x == ("__debug__" : Str)) = false := by decide) : PE X (.Call (.Name x p) [] [] pos) (tCall sp [] E0 tNil) := by
  obtain ⟨f, fd, ps, F, hm, kp, b⟩ := c.ex
  exact pe_call0 F (hr.mono hk) hg hm kp b .nil pass0 hdb
/-! ### t[::-1] of a tuple -/
theorem pe_revT {X : Cx} {e st : Expr} {te ts : TE} {pos p2 : Pos} (he : PE X e te) (hs : PE X st ts) : PE X (.Subscript e (.Slice none none (some st) p2) pos)
    (fun σ H Q => te σ H fun x H1 => ts σ H1 fun y H2 => y = .int (-1) ∧ ∃ a xs, x = .ref a ∧ SqT X.K H2 a xs ∧ ∀ p, H2 p = none → Q (.ref p) (upd H2 p (.tup xs.reverse))) := by
  refine ⟨fun pins s σ H Q I h => ?_⟩
  refine Subscript_ (thn (he.run pins s σ H _ I h) fun v s1 ⟨x, H1, I1, r1, q1⟩ => ?_)
  refine wpAny_Slice ?_
  rw [evalPart_none]
  refine wpAny_pure (wpAny_pure ?_)
  rw [evalPart_some]
  refine thn (hs.run pins s1 σ H1 _ I1 q1) fun vk s2 ⟨y, H2, I2, r2, q2⟩ => ?_
  obtain ⟨rfl, a, xs, rfl, hx, q⟩ := q2
  obtain ⟨t, rfl⟩ := r2
  cases r1
  have I3 : Inv X pins σ H2 { s2 with heap := s2.heap.push { cls := .type "slice", data := .fields #[.none, .none, .int (-1) t] } } := I2.kept (t' := s2.toks) fun b ob q => Heap.get?_push_of_some _ q
  obtain ⟨its', rv', ht', hz'⟩ := I3.tuple hx
  have hl := rv'.length
  refine tail_any (ops := [.ref a, .ref s2.heap.objs.size]) ht'.typeIs PyProof.Rows.slot_tuple_getitem.lookup ?_ (by with_unfolding_all rfl)
  refine PySem.HT.getItem_tuple_rev ht' (Heap.IsSliceOf.new ..) ?_ (by rw [List.size_toArray]; omega)
  refine ⟨.ref _, _, I3.laid (t' := s2.toks) (o := .tup xs.reverse) (fun b ob q => Heap.get?_push_of_some _ q) (Nat.le_refl _) ?_, rfl, q _ (I3.hok.fresh (Nat.le_refl _))⟩
  exact ⟨by rw [List.length_reverse]; exact hz', its'.reverse, Vals.rev rv', IsTup.new _ _⟩
end NG

set_option maxHeartbeats 2000000
namespace NG
open PySem PySem.Spec PyProof.Rows L2
/-! ### a truth taken for an int -/
def b2 (b : Bool) : Int := if b = true then 1 else 0
def rBI (f : Int → Int → Int) : R2 := fun x y H Q => ∃ i j, y = .int j ∧ (x = .int i ∨ ∃ b, x = .bl b ∧ i = b2 b) ∧ Q (.int (f i j)) H
theorem op_addIB {X : Cx} : OpR X (binaryOp .Add) (rBI (· + ·)) := by
  intro pins s σ H x y v u Q I rx ry h
  obtain ⟨i, j, rfl, h, q⟩ := h
  rcases h with rfl | ⟨b, rfl, rfl⟩
  · exact op_add (X := X) pins s σ H _ _ v u Q I rx ry ⟨i, j, rfl, rfl, q⟩
  · obtain rfl : v = Value.bool b := rx
    obtain ⟨t, rfl⟩ := ry
    exact PySem.IntBool.add_bool_int ⟨.int _, H, I.tok _, ⟨_, rfl⟩, q⟩
theorem op_subIB {X : Cx} : OpR X (binaryOp .Sub) (rBI (· - ·)) := by
  intro pins s σ H x y v u Q I rx ry h
  obtain ⟨i, j, rfl, h, q⟩ := h
  rcases h with rfl | ⟨b, rfl, rfl⟩
  · exact op_sub (X := X) pins s σ H _ _ v u Q I rx ry ⟨i, j, rfl, rfl, q⟩
  · obtain rfl : v = Value.bool b := rx
    obtain ⟨t, rfl⟩ := ry
    exact PySem.IntBool.sub_bool_int ⟨.int _, H, I.tok _, ⟨_, rfl⟩, q⟩
def shIB : V → Option Str
  | .int i => if i.natAbs.log2 < 1920 then some (Str.ofString (toString i)) else none
  | .bl b => some (if b = true then "True" else "False")
  | _ => none
theorem call_strIB {X : Cx} : CallR X (.type "str") (fun xs H Q => ∃ v z, xs = [v] ∧ shIB v = some z ∧ Q (.str z) H) := by
  intro pins s σ H xs us Q I r h
  obtain ⟨v, z, rfl, hz, q⟩ := h
  cases v with
  | int i =>
    have hz : (if i.natAbs.log2 < 1920 then some (Str.ofString (toString i)) else none) = some z := hz
    by_cases hc : i.natAbs.log2 < 1920
    · rw [if_pos hc] at hz
      have hz := Option.some.inj hz
      subst hz
      exact call_str_int (X := X) pins s σ H _ us Q I r ⟨i, rfl, hc, q⟩
    · rw [if_neg hc] at hz
      cases hz
  | bl b =>
    cases hz
    obtain ⟨u, rfl, t⟩ := vals1 r
    obtain rfl : u = Value.bool b := t
    exact PySem.P.str_of_bool ⟨.str _, H, I.tok _, ⟨_, rfl⟩, q⟩
  | _ => cases hz
end NG

set_option maxHeartbeats 2000000
namespace NG
open PySem PySem.Spec PyProof.Rows L2
/-! ### things with small leaves -/
mutual
def tame (B : Nat) : PyData → Bool
  | .none => true
  | .bool _ => true
  | .int i => decide (i.natAbs ≤ B)
  | .str x => (x.cps.toList.all fun c => decide (c < 16 ^ 8))
  | .list ds => tameAll B ds
  | .tuple ds => tameAll B ds
  | .dict kvs => kvs.isEmpty
def tameAll (B : Nat) : List PyData → Bool
  | [] => true
  | d :: ds => tame B d && tameAll B ds
end
mutual
theorem tame_show {B : Nat} (hB : B < 10 ^ 40) : ∀ {d : PyData}, tame B d = true → d.showable = true ∧ d.leavesShort 70 = true
  | .none, _ => ⟨rfl, rfl⟩
  | .bool _, _ => ⟨rfl, rfl⟩
  | .int i, h => by
    have h : i.natAbs ≤ B := of_decide_eq_true (by unfold tame at h; exact h)
    have := Shh.int40 (i := i) (by omega)
    exact ⟨this.sh, this.lf⟩
  | .str x, h => ⟨rfl, by unfold tame at h; exact h⟩
  | .list ds, h => by
    unfold tame at h
    exact tameAll_show hB h
  | .tuple ds, h => by
    unfold tame at h
    exact tameAll_show hB h
  | .dict [], h => ⟨rfl, rfl⟩
  | .dict (_ :: _), h => by
    unfold tame at h
    cases h
theorem tameAll_show {B : Nat} (hB : B < 10 ^ 40) : ∀ {ds : List PyData}, tameAll B ds = true → PyData.showableAll ds = true ∧ PyData.leavesShortAll 70 ds = true
  | [], _ => ⟨rfl, rfl⟩
  | d :: ds, h => by
    unfold tameAll at h
    rw [Bool.and_eq_true] at h
    obtain ⟨a, b⟩ := tame_show hB h.1
    obtain ⟨c, e⟩ := tameAll_show hB h.2
    exact ⟨by show (d.showable && PyData.showableAll ds) = true; rw [a, c]; rfl, by show (d.leavesShort 70 && PyData.leavesShortAll 70 ds) = true; rw [b, e]; rfl⟩
end
mutual
theorem tame_mono {B B' : Nat} (h : B ≤ B') : ∀ {d : PyData}, tame B d = true → tame B' d = true
  | .none, _ => rfl
  | .bool _, _ => rfl
  | .int i, x => by
    unfold tame at x ⊢
    have := of_decide_eq_true x
    exact decide_eq_true (by omega)
  | .str x, h => by unfold tame at h ⊢; exact h
  | .list ds, x => by unfold tame at x ⊢; exact tameAll_mono h x
  | .tuple ds, x => by unfold tame at x ⊢; exact tameAll_mono h x
  | .dict _, x => by unfold tame at x ⊢; exact x
theorem tameAll_mono {B B' : Nat} (h : B ≤ B') : ∀ {ds : List PyData}, tameAll B ds = true → tameAll B' ds = true
  | [], _ => rfl
  | d :: ds, x => by
    unfold tameAll at x ⊢
    rw [Bool.and_eq_true] at x ⊢
    exact ⟨tame_mono h x.1, tameAll_mono h x.2⟩
end
structure Tm (B W D : Nat) (d : PyData) : Prop where
  tm : tame B d = true
  wt : d.weight ≤ W
  dp : d.depth ≤ D
structure Tms (B W D : Nat) (ds : List PyData) : Prop where
  tm : tameAll B ds = true
  wt : PyData.weightAll ds ≤ W
  dp : PyData.depthAll ds ≤ D
theorem Tm.shh {B W D : Nat} {d : PyData} (h : Tm B W D d) (hB : B < 10 ^ 40) : Shh d W D := ⟨(tame_show hB h.tm).1, (tame_show hB h.tm).2, h.wt, h.dp⟩
theorem Tm.mono {B W D B' W' D' : Nat} {d : PyData} (h : Tm B W D d) (h1 : B ≤ B') (h2 : W ≤ W') (h3 : D ≤ D') : Tm B' W' D' d := ⟨tame_mono h1 h.tm, Nat.le_trans h.wt h2, Nat.le_trans h.dp h3⟩
theorem Tms.mono {B W D B' W' D' : Nat} {d : List PyData} (h : Tms B W D d) (h1 : B ≤ B') (h2 : W ≤ W') (h3 : D ≤ D') : Tms B' W' D' d := ⟨tameAll_mono h1 h.tm, Nat.le_trans h.wt h2, Nat.le_trans h.dp h3⟩
theorem Tms.nil {B W D : Nat} : Tms B W D [] := ⟨rfl, Nat.zero_le _, Nat.zero_le _⟩
theorem Tms.cons {B W1 W2 D : Nat} {d : PyData} {ds : List PyData} (h1 : Tm B W1 D d) (h2 : Tms B W2 D ds) : Tms B (W1 + 1 + W2) D (d :: ds) := by
  refine ⟨?_, ?_, ?_⟩
  · unfold tameAll
    rw [h1.tm, h2.tm]
    rfl
  · show d.weight + 1 + PyData.weightAll ds ≤ _
    have := h1.wt
    have := h2.wt
    omega
  · show max d.depth (PyData.depthAll ds) ≤ D
    have := h1.dp
    have := h2.dp
    omega
theorem Tms.head {B W D : Nat} {d : PyData} {ds : List PyData} (h : Tms B W D (d :: ds)) : Tm B d.weight D d ∧ Tms B (W - d.weight - 1) D ds ∧ d.weight + 1 ≤ W := by
  obtain ⟨a, b, c⟩ := h
  unfold tameAll at a
  rw [Bool.and_eq_true] at a
  have b : d.weight + 1 + PyData.weightAll ds ≤ W := b
  have c : max d.depth (PyData.depthAll ds) ≤ D := c
  exact ⟨⟨a.1, Nat.le_refl _, by omega⟩, ⟨a.2, by omega, by omega⟩, by omega⟩
theorem Tms.app {B D : Nat} {es : List PyData} {W2 : Nat} (h2 : Tms B W2 D es) : ∀ {ds : List PyData} {W1 : Nat}, Tms B W1 D ds → Tms B (W1 + W2) D (ds ++ es)
  | [], W1, _ => h2.mono (Nat.le_refl _) (by omega) (Nat.le_refl _)
  | d :: ds, W1, h => by
    obtain ⟨a, b, c⟩ := h.head
    exact (Tms.cons a (Tms.app h2 b)).mono (Nat.le_refl _) (by omega) (Nat.le_refl _)
theorem Tms.split {B D : Nat} : ∀ {ds : List PyData} {W : Nat} (i : Nat), Tms B W D ds → ∃ W1 W2, Tms B W1 D (ds.take i) ∧ Tms B W2 D (ds.drop i) ∧ W1 + W2 ≤ W
  | _, W, 0, h => ⟨0, W, .nil, h, by omega⟩
  | [], W, i + 1, h => ⟨0, 0, by rw [List.take_nil]; exact .nil, by rw [List.drop_nil]; exact .nil, by omega⟩
  | d :: ds, W, i + 1, h => by
    obtain ⟨a, b, c⟩ := h.head
    obtain ⟨W1, W2, p, q, e⟩ := Tms.split i b
    exact ⟨d.weight + 1 + W1, W2, Tms.cons a p, q, by omega⟩
theorem Tms.at {B W D : Nat} {ds : List PyData} {i : Nat} {d : PyData} (h : Tms B W D ds) (hd : ds[i]? = some d) : ∃ W1 W2 W3, Tms B W1 D (ds.take i) ∧ Tm B W2 D d ∧ Tms B W3 D (ds.drop (i + 1)) ∧ W1 + (W2 + 1) + W3 ≤ W := by
  obtain ⟨W1, W2, a, b, c⟩ := h.split i
  have hi := (List.getElem?_eq_some_iff.mp hd).1
  rw [List.drop_eq_getElem_cons hi, (List.getElem?_eq_some_iff.mp hd).2] at b
  obtain ⟨p, q, e⟩ := b.head
  exact ⟨W1, d.weight, W2 - d.weight - 1, a, p, q, by omega⟩
theorem Tms.rev {B W D : Nat} : ∀ {ds : List PyData} {W : Nat}, Tms B W D ds → Tms B W D ds.reverse
  | [], _, h => h
  | d :: ds, W, h => by
    obtain ⟨a, b, c⟩ := h.head
    rw [List.reverse_cons]
    have h1 := Tms.rev (W := 0) (B := B) (D := D) b
    exact (Tms.app (Tms.cons a (.nil (W := 0))) h1).mono (Nat.le_refl _) (by omega) (Nat.le_refl _)
theorem Tms.tup {B W D : Nat} {ds : List PyData} (h : Tms B W D ds) : Tm B W (D + 1) (.tuple ds) := ⟨by unfold tame; exact h.tm, h.wt, by show PyData.depthAll ds + 1 ≤ D + 1; have := h.dp; omega⟩
theorem Tms.lst {B W D : Nat} {ds : List PyData} (h : Tms B W D ds) : Tm B W (D + 1) (.list ds) := ⟨by unfold tame; exact h.tm, h.wt, by show PyData.depthAll ds + 1 ≤ D + 1; have := h.dp; omega⟩
theorem Tm.items {B W D : Nat} {ds : List PyData} (h : Tm B W (D + 1) (.tuple ds)) : Tms B W D ds := ⟨by have := h.tm; unfold tame at this; exact this, h.wt, by have h1 : PyData.depthAll ds + 1 ≤ D + 1 := h.dp; omega⟩
theorem Tm.int {B : Nat} {i : Int} (h : i.natAbs ≤ B) (hB : B < 10 ^ 40) : Tm B 140 0 (.int i) := ⟨by unfold tame; exact decide_eq_true h, (Shh.int40 (i := i) (by omega)).wt, Nat.le_refl _⟩
theorem Tm.bl {B : Nat} (b : Bool) : Tm B 0 0 (.bool b) := ⟨rfl, Nat.le_refl _, Nat.le_refl _⟩
theorem Tm.non {B : Nat} : Tm B 0 0 .none := ⟨rfl, Nat.le_refl _, Nat.le_refl _⟩
theorem Tm.dic {B : Nat} : Tm B 0 1 (.dict []) := ⟨rfl, Nat.le_refl _, Nat.le_refl _⟩
theorem Tm.str {B : Nat} {x : Str} (h : (x.cps.toList.all fun c => decide (c < 16 ^ 8)) = true) (hl : x.cps.size ≤ 10) : Tm B 10 0 (.str x) := ⟨by unfold tame; exact h, hl, Nat.le_refl _⟩
theorem Tm.sint {B : Nat} {i : Int} (h : i.natAbs < 10 ^ 40) : Tm B 41 0 (.str (Str.ofString (toString i))) := ⟨by unfold tame; exact chars_of _, (Shh.sint h).wt, Nat.le_refl _⟩
/-! ### cuts at counted places -/
theorem cut_to {xs : List V} {j : Nat} : cutV xs none (some (j : Int)) = xs.take j := by
  unfold cutV
  rw [HT.sIx_nat, show HT.sIx xs.length 0 none = 0 from HT.sIx_none _ _, List.drop_zero, Nat.sub_zero]
  by_cases c : j ≤ xs.length
  · rw [show min j xs.length = j by omega]
  · rw [show min j xs.length = xs.length by omega, List.take_length, List.take_of_length_le (by omega)]
theorem cut_from {xs : List V} {i : Nat} : cutV xs (some (i : Int)) none = xs.drop i := by
  unfold cutV
  rw [HT.sIx_nat, show HT.sIx xs.length xs.length none = xs.length from HT.sIx_none _ _]
  by_cases c : i ≤ xs.length
  · rw [show min i xs.length = i by omega, List.take_of_length_le (by rw [List.length_drop]; exact Nat.le_refl _)]
  · rw [show min i xs.length = xs.length by omega, List.drop_length, List.drop_of_length_le (by omega), List.take_nil]
theorem cut_mid {xs : List V} {i j : Nat} : cutV xs (some (i : Int)) (some (j : Int)) = (xs.drop i).take (j - i) := by
  unfold cutV
  rw [HT.sIx_nat, HT.sIx_nat]
  by_cases c : i ≤ xs.length
  · rw [show min i xs.length = i by omega]
    by_cases c2 : j ≤ xs.length
    · rw [show min j xs.length = j by omega]
    · rw [show min j xs.length = xs.length by omega, List.take_of_length_le (by rw [List.length_drop]; exact Nat.le_refl _), List.take_of_length_le (by rw [List.length_drop]; omega)]
  · rw [show min i xs.length = xs.length by omega, List.drop_length, List.drop_of_length_le (by omega), List.take_nil, List.take_nil]
theorem dqall_rev {K : PySem.W.Frag} {H : Hp} : ∀ {ds : List PyData} {vs : List V}, DqAll K H vs ds → DqAll K H vs.reverse ds.reverse
  | [], _, .nil => .nil
  | d :: ds, _, .cons a b => by
    rw [List.reverse_cons, List.reverse_cons]
    exact dqall_app (.cons a .nil) (dqall_rev b)
end NG

set_option maxHeartbeats 2000000
namespace NG
open PySem PySem.Spec PyProof.Rows L2
/-! ### a heap without the hand and some lists that change -/
def hideL (S : List Addr) (H : Hp) : Hp := fun b => if b ∈ S then none else H b
theorem hideL_ne {S : List Addr} {b : Addr} {H : Hp} (h : b ∉ S) : hideL S H b = H b := if_neg h
theorem hideL_same {S : List Addr} {H : Hp} : Same (hideL S H) H := fun b o e => by
  unfold hideL at e
  split at e
  · cases e
  · exact e
theorem hideL_but {S : List Addr} {a : Addr} {H H' : Hp} (h : But a H H') : Same (hideL (a :: S) H) (hideL (a :: S) H') := fun b o e => by
  unfold hideL at e ⊢
  split at e
  · cases e
  · rename_i hn
    rw [if_neg hn]
    exact h b o (fun z => hn (z ▸ List.mem_cons_self)) e
theorem hideL_same2 {S : List Addr} {H H' : Hp} (h : Same H H') : Same (hideL S H) (hideL S H') := fun b o e => by
  unfold hideL at e ⊢
  split at e
  · cases e
  · rename_i hn
    rw [if_neg hn]
    exact h b o e
theorem hideL_put {S : List Addr} {l : Addr} {H : Hp} {o : HO} (h : l ∈ S) : Same (hideL S H) (hideL S (upd H l o)) := fun b o e => by
  unfold hideL at e ⊢
  split at e
  · cases e
  · rename_i hn
    rw [if_neg hn, upd_ne (show b ≠ l from fun z => hn (by rw [z]; exact h))]
    exact e
theorem hideL_at {S : List Addr} {p : Addr} {H : Hp} {o : HO} (h : p ∉ S) (q : H p = some o) : hideL S H p = some o := (hideL_ne h).trans q
structure Tr (a : Addr) (L : List Addr) (n : Nat) (H : Hp) : Prop where
  hand : HandAt H a n
  ls : ∀ x ∈ L, x ≠ a ∧ ∃ xs, H x = some (.lst xs)
theorem Tr.lst {a : Addr} {L : List Addr} {n : Nat} {H : Hp} (t : Tr a L n H) : ∀ x ∈ a :: L, ∃ xs, H x = some (.lst xs) := fun x hx => by
  rcases List.mem_cons.mp hx with rfl | hx
  · exact t.hand.some
  · exact (t.ls x hx).2
theorem Tr.ne {a p : Addr} {L : List Addr} {n : Nat} {H : Hp} (t : Tr a L n H) (h : H p = none) : p ∉ a :: L := fun hx => by
  obtain ⟨xs, e⟩ := t.lst p hx
  rw [h] at e
  cases e
theorem Tr.same {a : Addr} {L : List Addr} {n : Nat} {H H' : Hp} (t : Tr a L n H) (s : Same H H') : Tr a L n H' := ⟨t.hand.same s, fun x hx => by
  obtain ⟨h1, xs, e⟩ := t.ls x hx
  exact ⟨h1, xs, s _ _ e⟩⟩
theorem Tr.new {a p : Addr} {L : List Addr} {n : Nat} {H : Hp} {o : HO} (t : Tr a L n H) (h : H p = none) : Tr a L n (upd H p o) := t.same (same_new h)
theorem Tr.but {a : Addr} {L : List Addr} {n n' : Nat} {H H' : Hp} (t : Tr a L n H) (b : But a H H') (hh : HandAt H' a n') : Tr a L n' H' := ⟨hh, fun x hx => by
  obtain ⟨h1, xs, e⟩ := t.ls x hx
  exact ⟨h1, xs, b _ _ h1 e⟩⟩
theorem hideL_sqt {a p : Addr} {L : List Addr} {H : Hp} {K : PySem.W.Frag} {n : Nat} {xs : List V} (t : Tr a L n H) (q : SqT K H p xs) : SqT K (hideL (a :: L) H) p xs := by
  have nm : ∀ {o : HO}, H p = some o → (∀ l, o ≠ .lst l) → p ∉ a :: L := fun e hn hx => by
    obtain ⟨l, e2⟩ := t.lst p hx
    rw [e] at e2
    exact hn l (Option.some.inj e2)
  rcases q with (q | ⟨o, q⟩) | q
  · exact .inl (.inl ((hideL_ne (nm q (fun l z => by cases z))).trans q))
  · exact .inl (.inr ⟨o, (hideL_ne (nm q (fun l z => by cases z))).trans q⟩)
  · exact .inr q
end NG

namespace NG
open PySem PySem.Spec PyProof.Rows L2
def topS (i : Nat) : Stmt := PySem.Challenge.pw_nonegrowsrich_k03_expressions_of_anythin.main.body.getD i (.Pass ⟨0, 0, 0, 0⟩)
abbrev s_is_number : Stmt := topS 1
abbrev N_is_number : List Str := ["thing"]
theorem sc_is_number : FnScope ["thing"] ["thing"] (defScope s_is_number) := ⟨rfl, rfl, rfl, by decide +kernel, rfl, by decide +kernel, by decide +kernel⟩
abbrev s_is_within : Stmt := topS 2
abbrev N_is_within : List Str := ["thing", "low", "high"]
theorem sc_is_within : FnScope ["thing", "low", "high"] ["thing", "low", "high"] (defScope s_is_within) := ⟨rfl, rfl, rfl, by decide +kernel, rfl, by decide +kernel, by decide +kernel⟩
abbrev s_fits : Stmt := topS 8
abbrev N_fits : List Str := ["kind", "thing", "many", "low", "high"]
theorem sc_fits : FnScope ["kind", "thing", "many", "low", "high"] ["kind", "thing", "many"] (defScope s_fits) := ⟨rfl, rfl, rfl, by decide +kernel, rfl, by decide +kernel, by decide +kernel⟩
abbrev s_first_word : Stmt := topS 9
abbrev N_first_word : List Str := ["thing"]
theorem sc_first_word : FnScope ["thing"] ["thing"] (defScope s_first_word) := ⟨rfl, rfl, rfl, by decide +kernel, rfl, by decide +kernel, by decide +kernel⟩
abbrev s_fits_shape : Stmt := topS 10
abbrev N_fits_shape : List Str := ["thing", "shape", "many", "kind", "item"]
theorem sc_fits_shape : FnScope ["thing", "shape", "many", "kind", "item"] ["thing", "shape", "many"] (defScope s_fits_shape) := ⟨rfl, rfl, rfl, by decide +kernel, rfl, by decide +kernel, by decide +kernel⟩
abbrev s_has_shape : Stmt := topS 11
abbrev N_has_shape : List Str := ["thing", "many", "word"]
theorem sc_has_shape : FnScope ["thing", "many", "word"] ["thing", "many"] (defScope s_has_shape) := ⟨rfl, rfl, rfl, by decide +kernel, rfl, by decide +kernel, by decide +kernel⟩
abbrev s_parts : Stmt := topS 12
abbrev N_parts : List Str := ["expression", "shape", "kind", "item"]
theorem sc_parts : FnScope ["expression", "shape", "kind", "item"] ["expression"] (defScope s_parts) := ⟨rfl, rfl, rfl, by decide +kernel, rfl, by decide +kernel, by decide +kernel⟩
abbrev s_count_parts : Stmt := topS 13
abbrev N_count_parts : List Str := ["thing", "many", "deep", "total", "part", "inside"]
theorem sc_count_parts : FnScope ["thing", "many", "deep", "total", "part", "inside"] ["thing", "many", "deep"] (defScope s_count_parts) := ⟨rfl, rfl, rfl, by decide +kernel, rfl, by decide +kernel, by decide +kernel⟩
abbrev s_is_expression : Stmt := topS 14
abbrev N_is_expression : List Str := ["thing", "many"]
theorem sc_is_expression : FnScope ["thing", "many"] ["thing", "many"] (defScope s_is_expression) := ⟨rfl, rfl, rfl, by decide +kernel, rfl, by decide +kernel, by decide +kernel⟩
abbrev s_L_hand : Stmt := topS 16
abbrev N_L_hand : List Str := ["_law_script", "_law_k", "_law_cell", "_law_great"]
theorem sc_L_hand : FnScope ["_law_script", "_law_k", "_law_cell", "_law_great"] ["_law_script", "_law_k"] (defScope s_L_hand) := ⟨rfl, rfl, rfl, by decide +kernel, rfl, by decide +kernel, by decide +kernel⟩
abbrev s_L_take : Stmt := topS 17
abbrev N_L_take : List Str := ["_law_hand_here", "_law_signs", "_law_digit", "_law_primes", "_law_prime", "_law_drawn"]
theorem sc_L_take : FnScope ["_law_hand_here", "_law_signs", "_law_digit", "_law_primes", "_law_prime", "_law_drawn"] ["_law_hand_here", "_law_signs"] (defScope s_L_take) := ⟨rfl, rfl, rfl, by decide +kernel, rfl, by decide +kernel, by decide +kernel⟩
abbrev s_L_of : Stmt := topS 18
abbrev N_L_of : List Str := ["_law_hand_here", "_law_some"]
theorem sc_L_of : FnScope ["_law_hand_here", "_law_some"] ["_law_hand_here", "_law_some"] (defScope s_L_of) := ⟨rfl, rfl, rfl, by decide +kernel, rfl, by decide +kernel, by decide +kernel⟩
abbrev s_L_figure : Stmt := topS 19
abbrev N_L_figure : List Str := ["_law_hand_here", "_law_some"]
theorem sc_L_figure : FnScope ["_law_hand_here", "_law_some"] ["_law_hand_here"] (defScope s_L_figure) := ⟨rfl, rfl, rfl, by decide +kernel, rfl, by decide +kernel, by decide +kernel⟩
abbrev s_L_leaf : Stmt := topS 20
abbrev N_L_leaf : List Str := ["_law_hand_here", "_law_signs", "_law_sort"]
theorem sc_L_leaf : FnScope ["_law_hand_here", "_law_signs", "_law_sort"] ["_law_hand_here", "_law_signs"] (defScope s_L_leaf) := ⟨rfl, rfl, rfl, by decide +kernel, rfl, by decide +kernel, by decide +kernel⟩
abbrev s_L_expression : Stmt := topS 21
abbrev N_L_expression : List Str := ["_law_hand_here", "_law_signs", "_law_level", "_law_jumps", "_law_words", "_law_word", "_law_one", "_law_other", "_law_figure_here"]
theorem sc_L_expression : FnScope ["_law_hand_here", "_law_signs", "_law_level", "_law_jumps", "_law_words", "_law_word", "_law_one", "_law_other", "_law_figure_here"] ["_law_hand_here", "_law_signs", "_law_level", "_law_jumps"] (defScope s_L_expression) := ⟨rfl, rfl, rfl, by decide +kernel, rfl, by decide +kernel, by decide +kernel⟩
abbrev s_L_forms : Stmt := topS 22
abbrev N_L_forms : List Str := ["_law_forms_here"]
theorem sc_L_forms : FnScope ["_law_forms_here"] [] (defScope s_L_forms) := ⟨rfl, rfl, rfl, by decide +kernel, rfl, by decide +kernel, by decide +kernel⟩
abbrev s_L_size : Stmt := topS 23
abbrev N_L_size : List Str := ["_law_item", "_law_signs", "_law_deep", "_law_form", "_law_ends", "_law_found", "_law_letter", "_law_part"]
theorem sc_L_size : FnScope ["_law_item", "_law_signs", "_law_deep", "_law_form", "_law_ends", "_law_found", "_law_letter", "_law_part"] ["_law_item", "_law_signs", "_law_deep"] (defScope s_L_size) := ⟨rfl, rfl, rfl, by decide +kernel, rfl, by decide +kernel, by decide +kernel⟩
abbrev s_L_is : Stmt := topS 24
abbrev N_L_is : List Str := ["_law_item", "_law_signs"]
theorem sc_L_is : FnScope ["_law_item", "_law_signs"] ["_law_item", "_law_signs"] (defScope s_L_is) := ⟨rfl, rfl, rfl, by decide +kernel, rfl, by decide +kernel, by decide +kernel⟩
abbrev s_L_odd : Stmt := topS 25
abbrev N_L_odd : List Str := ["_law_hand_here", "_law_part", "_law_words", "_law_some"]
theorem sc_L_odd : FnScope ["_law_hand_here", "_law_part", "_law_words", "_law_some"] ["_law_hand_here", "_law_part"] (defScope s_L_odd) := ⟨rfl, rfl, rfl, by decide +kernel, rfl, by decide +kernel, by decide +kernel⟩
abbrev s_L_bent : Stmt := topS 26
abbrev N_L_bent : List Str := ["_law_hand_here", "_law_item", "_law_at", "_law_way"]
theorem sc_L_bent : FnScope ["_law_hand_here", "_law_item", "_law_at", "_law_way"] ["_law_hand_here", "_law_item"] (defScope s_L_bent) := ⟨rfl, rfl, rfl, by decide +kernel, rfl, by decide +kernel, by decide +kernel⟩
abbrev s_L_right : Stmt := topS 27
abbrev N_L_right : List Str := ["_law_item", "_law_as_was", "_law_signs", "_law_told"]
theorem sc_L_right : FnScope ["_law_item", "_law_as_was", "_law_signs", "_law_told"] ["_law_item"] (defScope s_L_right) := ⟨rfl, rfl, rfl, by decide +kernel, rfl, by decide +kernel, by decide +kernel⟩
abbrev s_law : Stmt := topS 28
abbrev N_law : List Str := ["_law_script", "_law_k", "_law_hand_here", "_law_made", "_law_some", "_law_turn", "_law_bent_here", "_law_item"]
theorem sc_law : FnScope ["_law_script", "_law_k", "_law_hand_here", "_law_made", "_law_some", "_law_turn", "_law_bent_here", "_law_item"] ["_law_script"] (defScope s_law) := ⟨rfl, rfl, rfl, by decide +kernel, rfl, by decide +kernel, by decide +kernel⟩

end NG

namespace NG
open PySem PySem.Spec PyProof.Rows L2
section
variable {P : Program} {w : World} {K : PySem.W.Frag} {mg : Str → Option Value} {base : Heap}
theorem primes_at {m : Int} (h : 0 ≤ m) : ∃ p : Int, atI ([.int 2147483647, .int 2147483629, .int 2147483587, .int 2147483579, .int 2147483563, .int 2147483549, .int 2147483543, .int 2147483497] : List V) (m % 8) = some (.int p) ∧ 1000 < p ∧ p < 2147483648 := by
  have h1 : m % 8 = 0 ∨ m % 8 = 1 ∨ m % 8 = 2 ∨ m % 8 = 3 ∨ m % 8 = 4 ∨ m % 8 = 5 ∨ m % 8 = 6 ∨ m % 8 = 7 := by omega
  rcases h1 with e | e | e | e | e | e | e | e <;> rw [e] <;> exact ⟨_, rfl, by decide, by decide⟩
theorem ok_take {f : Addr} {fd : FuncData} (F : Fun K "_law_take" "_law_take" s_L_take f fd) (gF : mg "_law_take" = some (.ref f)) (b : Binds K fd ["_law_hand_here", "_law_signs"] []) : Cal P w K mg base 1 "_law_take" spTake := by
  refine ⟨f, fd, _, F.ok sc_L_take (fun vs H Q E h => ?_) (fun cdv A outer s H vs Q E hr h => ?_), gF, F.kp, b⟩
  · obtain ⟨a, m, n, rfl, _⟩ := h
    rfl
  · obtain ⟨a, many, n, rfl, hm, hm2, ⟨g, sd, m, e, hg, hs, h0, hn⟩, hN, q⟩ := h
    refine ⟨_, (pss_cons (ps_if (pt_cmpR op_gt (pe_ix ix_list (pv 0) pe_int (fun _ _ => rfl)) pe_int (nomark _)) (pss_cons (ps_set (i := 2) sc_L_take.nd rfl (.inl rfl) (pe_op op_mod (pe_ix ix_list (pv 0) pe_int (fun _ _ => rfl)) (pv 1))) (pss_cons (ps_asg (pe_op op_fdivW (pe_ix ix_list (pv 0) pe_int (fun _ _ => rfl)) (pv 1)) (pg_sub (pv 0) pe_int set_list)) (pss_one (ps_ret (pv 2))))) pss_nil) (pss_cons (ps_asg (pe_op op_add (pe_ix ix_list (pv 0) pe_int (fun _ _ => rfl)) pe_int) (pg_sub (pv 0) pe_int set_list)) (pss_cons (ps_set (i := 3) sc_L_take.nd rfl (.inl rfl) (pe_lst (pa_cons pe_int (pa_cons pe_int (pa_cons pe_int (pa_cons pe_int (pa_cons pe_int (pa_cons pe_int (pa_cons pe_int (pa_cons pe_int pa_nil)))))))))) (pss_cons (ps_set (i := 4) sc_L_take.nd rfl (.inl rfl) (pe_ix ix_list (pv 3) (pe_op op_mod (pe_ix ix_list (pv 0) pe_int (fun _ _ => rfl)) pe_int) (fun _ _ => rfl))) (pss_cons (ps_set (i := 5) sc_L_take.nd rfl (.inl rfl) (pe_op op_add (pe_op op_mod (pe_op op_mod (pe_op op_add (pe_ix ix_list (pv 0) pe_int (fun _ _ => rfl)) (pe_op op_mul (pe_op op_mul pe_int (pe_ix ix_list (pv 0) pe_int (fun _ _ => rfl))) (pe_ix ix_list (pv 0) pe_int (fun _ _ => rfl)))) (pe_op op_pow (pv 4) pe_int)) (pv 4)) pe_int)) (pss_one (ps_ret (pe_op op_mod (pe_op op_fdiv (pe_op op_mod (pe_op op_mul (pv 5) (pe_op op_add (pe_op op_mod (pv 5) pe_int) (pe_ix ix_list (pv 0) pe_int (fun _ _ => rfl)))) (pv 4)) pe_int) (pv 1))))))))), ?_⟩
    refine ⟨.ref a, rfl, a, _, 0, .int g, rfl, rfl, SqL.of e, rfl, g, 0, rfl, rfl, _, rfl, iteD (fun c => ?_) (fun c => ?_)⟩
    · refine ⟨.ref a, rfl, a, _, 0, .int g, rfl, rfl, SqL.of e, rfl, .int many, rfl, g, many, rfl, rfl, hm, ?_⟩
      refine ⟨.ref a, rfl, a, _, 0, .int g, rfl, rfl, SqL.of e, rfl, .int many, rfl, g, many, rfl, rfl, wide_div (b := 62) hm (by omega) (by decide) (by decide), ?_⟩
      refine ⟨.ref a, rfl, a, _, 0, 0, rfl, rfl, e, rfl, ?_⟩
      refine ⟨.int (g % many), rfl, q _ _ But.put ?_ (Int.emod_nonneg _ (by omega)) (Int.emod_lt_of_pos _ hm)⟩
      exact ⟨g / many, sd, m, upd_same, Int.ediv_nonneg hg (by omega), hs, h0, by omega⟩
    · refine ⟨.ref a, rfl, a, _, 2, .int m, rfl, rfl, SqL.of e, rfl, m, 1, rfl, rfl, ?_⟩
      refine ⟨.ref a, rfl, a, _, 2, 2, rfl, rfl, e, rfl, ?_⟩
      have e1 : (upd H a (.lst [.int g, .int sd, .int (m + 1)])) a = some (.lst [.int g, .int sd, .int (m + 1)]) := upd_same
      refine ⟨by decide, fun p np => ?_⟩
      have npa : p ≠ a := (ne_of_none e1 np).symm
      obtain ⟨pr, hat, hp1, hp2⟩ := primes_at (m := m + 1) (by omega)
      have e2 : (upd (upd H a (.lst [.int g, .int sd, .int (m + 1)])) p (.lst [.int 2147483647, .int 2147483629, .int 2147483587, .int 2147483579, .int 2147483563, .int 2147483549, .int 2147483543, .int 2147483497])) a = some (.lst [.int g, .int sd, .int (m + 1)]) := by rw [upd_ne npa.symm]; exact e1
      have e3 : (upd (upd H a (.lst [.int g, .int sd, .int (m + 1)])) p (.lst [.int 2147483647, .int 2147483629, .int 2147483587, .int 2147483579, .int 2147483563, .int 2147483549, .int 2147483543, .int 2147483497])) p = some (.lst [.int 2147483647, .int 2147483629, .int 2147483587, .int 2147483579, .int 2147483563, .int 2147483549, .int 2147483543, .int 2147483497]) := upd_same
      refine ⟨.ref p, rfl, .ref a, rfl, a, _, 2, .int (m + 1), rfl, rfl, SqL.of e2, rfl, m + 1, 8, rfl, rfl, (by show (0 : Int) < 8; decide), p, _, (m + 1) % 8, .int pr, rfl, rfl, SqL.of e3, hat, ?_⟩
      have hsq : (0 : Int) < pr ^ (2 : Int).toNat := by
        show 0 < pr ^ 2
        exact Int.pow_pos (by omega)
      refine ⟨.ref a, rfl, a, _, 1, .int sd, rfl, rfl, SqL.of e2, rfl, .ref a, rfl, a, _, 2, .int (m + 1), rfl, rfl, SqL.of e2, rfl, 69621, m + 1, rfl, rfl, .inl ⟨by decide, by decide⟩, .ref a, rfl, a, _, 2, .int (m + 1), rfl, rfl, SqL.of e2, rfl, _, _, rfl, rfl, .inr ⟨by omega, by omega⟩, _, _, rfl, rfl,
        .int pr, rfl, pr, 2, rfl, rfl, ⟨by decide, by decide, by omega⟩, _, _, rfl, rfl, hsq, .int pr, rfl, _, pr, rfl, rfl, (by show 0 < pr; omega), _, 1, rfl, rfl, ?_⟩
      generalize hz : (sd + 69621 * (m + 1) * (m + 1)) % pr ^ (2 : Int).toNat % pr = z
      have hz0 : 0 ≤ z := by rw [← hz]; exact Int.emod_nonneg _ (by omega)
      have hz1 : z < pr := by rw [← hz]; exact Int.emod_lt_of_pos _ (by omega)
      refine ⟨.int (z + 1), rfl, .int (z + 1), rfl, z + 1, 1009, rfl, rfl, (by show (0 : Int) < 1009; decide), .ref a, rfl, a, _, 2, .int (m + 1), rfl, rfl, SqL.of e2, rfl, _, _, rfl, rfl, z + 1, _, rfl, rfl, .inl ⟨by omega, by omega⟩, .int pr, rfl, _, pr, rfl, rfl, (by show 0 < pr; omega), _, 7, rfl, rfl, ⟨by decide, by decide⟩, .int many, rfl, _, many, rfl, rfl, hm, ?_⟩
      refine q _ _ ?_ ⟨g, sd, m + 1, e2, hg, hs, by omega, by omega⟩ (Int.emod_nonneg _ (by omega)) (Int.emod_lt_of_pos _ hm)
      exact But.put.trans (But.new np)
end
end NG


namespace NG
open PySem PySem.Spec PyProof.Rows L2
/-! ### promises of the looks at things -/
def spIsNum (K : PySem.W.Frag) : Sp := fun vs H Q _ => ∃ (v : V) (d : PyData), vs = [v] ∧ Dq K H v d ∧ Q (.bl (isInt d)) H
def spInB (K : PySem.W.Frag) : Sp := fun vs H Q _ => ∃ (v : V) (lo hi : Int) (d : PyData), vs = [v, .int lo, .int hi] ∧ Dq K H v d ∧ Q (.bl (inD lo hi d)) H
def spFits (K : PySem.W.Frag) : Sp := fun vs H Q _ => ∃ (k : Kd) (v : V) (many : Int) (d : PyData), vs = [.str (kdn k), v, .int many] ∧ Dq K H v d ∧ ∀ H', Same H H' → Q (.bl (fitD many k d)) H'
def wdV : PyData → V
  | .tuple (.str x :: _) => .str x
  | _ => .non
def hasD (many : Int) : PyData → Bool
  | .tuple (.str x :: ds) => match weOf x with
    | some w => fitsD many (wsh w) ds
    | none => false
  | _ => false
theorem hasD_non {many : Int} : ∀ {d : PyData}, wdV d = .non → hasD many d = false
  | .tuple (.str _ :: _), h => by cases h
  | .tuple [], _ => rfl
  | .tuple (.none :: _), _ => rfl
  | .tuple (.bool _ :: _), _ => rfl
  | .tuple (.int _ :: _), _ => rfl
  | .tuple (.list _ :: _), _ => rfl
  | .tuple (.tuple _ :: _), _ => rfl
  | .tuple (.dict _ :: _), _ => rfl
  | .none, _ => rfl
  | .bool _, _ => rfl
  | .int _, _ => rfl
  | .str _, _ => rfl
  | .list _, _ => rfl
  | .dict _, _ => rfl
/-- no other words stand in the table -/
def Only11 (K : PySem.W.Frag) (a : Addr) : Prop := ∀ x, weOf x = none → PySem.W.nsIn K a x = some none
def spFirst (K : PySem.W.Frag) : Sp := fun vs H Q _ => ∃ (v : V) (d : PyData), vs = [v] ∧ Dq K H v d ∧ Q (wdV d) H
def spFitsSh (K : PySem.W.Frag) : Sp := fun vs H Q _ => ∃ (p q : Addr) (many : Int) (x : Str) (xs : List V) (ds : List PyData) (ks : List Kd), vs = [.ref p, .ref q, .int many] ∧ SqT K H p (.str x :: xs) ∧ DqAll K H xs ds ∧ (∀ H', SqT K H' q (ks.map fun k => V.str (kdn k))) ∧ ks.length ≤ 4 ∧ ∀ H', Same H H' → Q (.bl (fitsD many ks ds)) H'
def spHasSh (K : PySem.W.Frag) : Sp := fun vs H Q _ => ∃ (v : V) (many : Int) (d : PyData), vs = [v, .int many] ∧ Dq K H v d ∧ ∀ H', Same H H' → Q (.bl (hasD many d)) H'
def spPartsD (K : PySem.W.Frag) : Sp := fun vs H Q _ => ∃ (p : Addr) (w : We) (xs : List V) (ds : List PyData), vs = [.ref p] ∧ SqT K H p (.str (wen w) :: xs) ∧ DqAll K H xs ds ∧ ds.length = (wsh w).length ∧ ∀ H' l us, Same H H' → H l = none → H' l = some (.lst us) → DqAll K H' us (partsD (wsh w) ds) → Q (.ref l) H'
def spCntE (K : PySem.W.Frag) (n : Nat) : Sp := fun vs H Q _ => ∃ (v : V) (many : Int) (k : Nat) (d : PyData), vs = [v, .int many, .int (k : Int)] ∧ k < n ∧ Dq K H v d ∧ ∀ H', Same H H' → Q (.int (cntE many k d : Nat)) H'
theorem only11_of {K : PySem.W.Frag} {w : World} {d : Addr} {es : Array DictEntry} {n : Nat} (hl : K.lookup d = some ⟨.type "dict", none, .dict es n, #[]⟩) (hk : PySem.W.KeysLit w.params es.toList) (hx : ktx es.toList = [some ("fig" : Str), some ("reg" : Str), some ("share" : Str), some ("sum" : Str), some ("less" : Str), some ("times" : Str), some ("by" : Str), some ("least" : Str), some ("most" : Str), some ("when" : Str), some ("where" : Str)]) : Only11 K d := fun x h0 => nsIn_absent hl hk (fun h => by
  rw [hx] at h
  simp only [List.mem_cons, List.not_mem_nil, or_false, Option.some.injEq] at h
  rcases h with rfl | rfl | rfl | rfl | rfl | rfl | rfl | rfl | rfl | rfl | rfl <;> exact absurd h0 (by decide))
def spIsEx (K : PySem.W.Frag) : Sp := fun vs H Q _ => ∃ (v : V) (many : Int) (d : PyData), vs = [v, .int many] ∧ Dq K H v d ∧ ∀ H', Same H H' → Q (.bl (isEx many d)) H'
def spIsRegs (K : PySem.W.Frag) : Sp := fun vs H Q _ => ∃ (p : Addr) (xs : List V) (ds : List PyData), vs = [.ref p] ∧ SqT K H p xs ∧ DqAll K H xs ds ∧ ∀ H', Same H H' → Q (.bl (regsD ds)) H'
section
variable {P : Program} {w : World} {K : PySem.W.Frag} {mg : Str → Option Value} {base : Heap}
theorem ok_isnum {f : Addr} {fd : FuncData} (F : Fun K "is_number" "is_number" s_is_number f fd) (gF : mg "is_number" = some (.ref f)) (b : Binds K fd ["thing"] []) (B : Bl mg) (n_bool : mg "bool" = none) : Cal P w K mg base 1 "is_number" (spIsNum K) := by
  refine ⟨f, fd, _, F.ok sc_is_number (fun vs H Q E h => ?_) (fun cdv A outer s H vs Q E hr h => ?_), gF, F.kp, b⟩
  · obtain ⟨_, _, rfl, _⟩ := h
    rfl
  · obtain ⟨v, d, rfl, hd, q⟩ := h
    refine ⟨_, (pss_one (ps_ret (pe_and (pe_callB call_isi (by rfl) B.isinstance (by decide +kernel) (pa_cons (pv 0) (pa_cons (pe_bltn (v := .ty "int") (by rfl) B.int (by decide +kernel) rfl) pa_nil))) (pe_one (pe_not (pe_callB call_isi (by rfl) B.isinstance (by decide +kernel) (pa_cons (pv 0) (pa_cons (pe_bltn (v := .ty "bool") (by rfl) n_bool (by decide +kernel) rfl) pa_nil)))))))), ?_⟩
    refine ⟨v, rfl, v, .ty "int", _, _, _, rfl, .ty _, Dq.tyx hd, kit_ty (kit_int d), _, rfl, ?_⟩
    rw [← isInt_eq d] at q
    cases hk : kI d with
    | false =>
      rw [hk] at q
      exact iteFF rfl q
    | true =>
      rw [hk] at q
      exact iteTT rfl ⟨v, rfl, v, .ty "bool", _, _, _, rfl, .ty _, Dq.tyx hd, kit_ty (kit_bool d), _, rfl, q⟩
theorem ok_iswithin {f : Addr} {fd : FuncData} (F : Fun K "is_within" "is_within" s_is_within f fd) (gF : mg "is_within" = some (.ref f)) (b : Binds K fd ["thing", "low", "high"] []) (c_is_number : Cal P w K mg base 1 "is_number" (spIsNum K)) : Cal P w K mg base 2 "is_within" (spInB K) := by
  refine ⟨f, fd, _, F.ok sc_is_within (fun vs H Q E h => ?_) (fun cdv A outer s H vs Q E hr h => ?_), gF, F.kp, b⟩
  · obtain ⟨_, _, _, _, rfl, _⟩ := h
    rfl
  · obtain ⟨v, lo, hi, d, rfl, hd, q⟩ := h
    refine ⟨_, (pss_one (ps_ret (pe_and (pe_c c_is_number hr (by omega) (by rfl) (pa_cons (pv 0) pa_nil)) (pe_one (pe_chain op_le op_le (pv 1) (pv 0) (pv 2)))))), ?_⟩
    refine ⟨v, rfl, v, d, rfl, hd, _, rfl, ?_⟩
    cases hd with
    | int i =>
      refine iteTT rfl ⟨.int lo, rfl, .int i, rfl, _, _, rfl, rfl, _, rfl, ?_⟩
      have q : Q (.bl (decide (lo ≤ i) && decide (i ≤ hi))) H := q
      by_cases c : lo ≤ i
      · rw [decide_eq_true c] at q ⊢
        exact iteT ⟨.int hi, rfl, _, _, rfl, rfl, q⟩
      · rw [decide_eq_false c] at q ⊢
        exact iteF q
    | non => exact iteFF rfl q
    | bl _ => exact iteFF rfl q
    | str _ => exact iteFF rfl q
    | lst _ _ => exact iteFF rfl q
    | tup _ _ => exact iteFF rfl q
    | dic _ => exact iteFF rfl q
theorem ok_fits {f a_BOUNDS : Addr} {fd : FuncData} (F : Fun K "fits" "fits" s_fits f fd) (gF : mg "fits" = some (.ref f)) (b : Binds K fd ["kind", "thing", "many"] []) (mg_BOUNDS : mg "BOUNDS" = some (.ref a_BOUNDS)) (hN : TabN K w a_BOUNDS) (c_is_within : Cal P w K mg base 2 "is_within" (spInB K)) : Cal P w K mg base 3 "fits" (spFits K) := by
  refine ⟨f, fd, _, F.ok sc_fits (fun vs H Q E h => ?_) (fun cdv A outer s H vs Q E hr h => ?_), gF, F.kp, b⟩
  · obtain ⟨_, _, _, _, rfl, _⟩ := h
    rfl
  · obtain ⟨k, v, many, d, rfl, hd, q⟩ := h
    refine ⟨_, (pss_cons (ps_if (pt_cmpR op_eq (pv 0) pe_str (nomark _)) (pss_one (ps_ret pe_bl)) pss_nil) (pss_cons (ps_asg (pe_cut (pe_ifExp (pt_cmpR op_eq (pv 0) pe_str (nomark _)) (pe_tup (pa_cons pe_int (pa_cons (pe_op op_sub (pv 2) pe_int) pa_nil))) (pe_ix ix_kdict (pe_glob (v := .ref a_BOUNDS) (by rfl) mg_BOUNDS rfl) (pv 0) (fun _ _ => rfl)))) (pg_tup rfl (pgs_cons (pg_name (i := 3) sc_fits.nd rfl (.inl rfl)) (pgs_cons (pg_name (i := 4) sc_fits.nd rfl (.inl rfl)) pgs_nil)))) (pss_one (ps_ret (pe_c c_is_within hr (by omega) (by rfl) (pa_cons (pv 1) (pa_cons (pv 3) (pa_cons (pv 4) pa_nil)))))))), ?_⟩
    cases k with
    | part => exact ⟨_, rfl, rfl, _, rfl, iteTT (by decide) (q H (Same.refl _))⟩
    | sign =>
      refine ⟨_, rfl, rfl, _, rfl, iteFF (by decide) ⟨fun u H' => Same H H' ∧ ∃ bq, u = .ref bq ∧ SqT K H' bq [.int 0, .int (many - 1)], ⟨_, rfl, rfl, _, rfl, iteTT (by decide) ⟨_, rfl, _, _, rfl, rfl, (by show 2 ≤ sizeLine; decide), fun p np => ⟨same_new np, p, rfl, SqT.of upd_same⟩⟩⟩, ?_⟩⟩
      rintro u H1 ⟨sm, b1, rfl, hb1⟩
      exact ⟨b1, _, rfl, hb1, rfl, _, _, rfl, _, _, rfl, rfl, v, rfl, _, rfl, _, rfl, v, _, _, d, rfl, dq_same sm hd, q _ sm⟩
    | figure =>
      obtain ⟨bq, hkd, hsq⟩ := hN .figure (by decide) (by decide)
      refine ⟨_, rfl, rfl, _, rfl, iteFF (by decide) ⟨fun u H' => Same H H' ∧ ∃ bq, u = .ref bq ∧ SqT K H' bq [.int (bndE .figure).1, .int (bndE .figure).2], ⟨_, rfl, rfl, _, rfl, iteFF (by decide) ⟨_, rfl, a_BOUNDS, _, _, rfl, rfl, hkd, Same.refl _, bq, rfl, hsq _⟩⟩, ?_⟩⟩
      rintro u H1 ⟨sm, b1, rfl, hb1⟩
      exact ⟨b1, _, rfl, hb1, rfl, _, _, rfl, _, _, rfl, rfl, v, rfl, _, rfl, _, rfl, v, _, _, d, rfl, dq_same sm hd, q _ sm⟩
    | place =>
      obtain ⟨bq, hkd, hsq⟩ := hN .place (by decide) (by decide)
      refine ⟨_, rfl, rfl, _, rfl, iteFF (by decide) ⟨fun u H' => Same H H' ∧ ∃ bq, u = .ref bq ∧ SqT K H' bq [.int (bndE .place).1, .int (bndE .place).2], ⟨_, rfl, rfl, _, rfl, iteFF (by decide) ⟨_, rfl, a_BOUNDS, _, _, rfl, rfl, hkd, Same.refl _, bq, rfl, hsq _⟩⟩, ?_⟩⟩
      rintro u H1 ⟨sm, b1, rfl, hb1⟩
      exact ⟨b1, _, rfl, hb1, rfl, _, _, rfl, _, _, rfl, rfl, v, rfl, _, rfl, _, rfl, v, _, _, d, rfl, dq_same sm hd, q _ sm⟩
    | factor =>
      obtain ⟨bq, hkd, hsq⟩ := hN .factor (by decide) (by decide)
      refine ⟨_, rfl, rfl, _, rfl, iteFF (by decide) ⟨fun u H' => Same H H' ∧ ∃ bq, u = .ref bq ∧ SqT K H' bq [.int (bndE .factor).1, .int (bndE .factor).2], ⟨_, rfl, rfl, _, rfl, iteFF (by decide) ⟨_, rfl, a_BOUNDS, _, _, rfl, rfl, hkd, Same.refl _, bq, rfl, hsq _⟩⟩, ?_⟩⟩
      rintro u H1 ⟨sm, b1, rfl, hb1⟩
      exact ⟨b1, _, rfl, hb1, rfl, _, _, rfl, _, _, rfl, rfl, v, rfl, _, rfl, _, rfl, v, _, _, d, rfl, dq_same sm hd, q _ sm⟩
    | line =>
      obtain ⟨bq, hkd, hsq⟩ := hN .line (by decide) (by decide)
      refine ⟨_, rfl, rfl, _, rfl, iteFF (by decide) ⟨fun u H' => Same H H' ∧ ∃ bq, u = .ref bq ∧ SqT K H' bq [.int (bndE .line).1, .int (bndE .line).2], ⟨_, rfl, rfl, _, rfl, iteFF (by decide) ⟨_, rfl, a_BOUNDS, _, _, rfl, rfl, hkd, Same.refl _, bq, rfl, hsq _⟩⟩, ?_⟩⟩
      rintro u H1 ⟨sm, b1, rfl, hb1⟩
      exact ⟨b1, _, rfl, hb1, rfl, _, _, rfl, _, _, rfl, rfl, v, rfl, _, rfl, _, rfl, v, _, _, d, rfl, dq_same sm hd, q _ sm⟩
theorem kit_str (d : PyData) : kitB (tyd d) "str" = some (match d with | .str _ => true | _ => false) := by
  cases d with
  | none => exact (by decide +kernel : kitB "NoneType" "str" = some false)
  | bool _ => exact (by decide +kernel : kitB "bool" "str" = some false)
  | int _ => exact (by decide +kernel : kitB "int" "str" = some false)
  | str _ => exact (by decide +kernel : kitB "str" "str" = some true)
  | list _ => exact (by decide +kernel : kitB "list" "str" = some false)
  | tuple _ => exact (by decide +kernel : kitB "tuple" "str" = some false)
  | dict _ => exact (by decide +kernel : kitB "dict" "str" = some false)
theorem ok_firstword {f : Addr} {fd : FuncData} (F : Fun K "first_word" "first_word" s_first_word f fd) (gF : mg "first_word" = some (.ref f)) (b : Binds K fd ["thing"] []) (B : Bl mg) : Cal P w K mg base 1 "first_word" (spFirst K) := by
  refine ⟨f, fd, _, F.ok sc_first_word (fun vs H Q E h => ?_) (fun cdv A outer s H vs Q E hr h => ?_), gF, F.kp, b⟩
  · obtain ⟨_, _, rfl, _⟩ := h
    rfl
  · obtain ⟨v, d, rfl, hd, q⟩ := h
    refine ⟨_, (pss_cons (ps_if (PW.pt (pw_and (pt_val (pe_callB call_isi (by rfl) B.isinstance (by decide +kernel) (pa_cons (pv 0) (pa_cons (pe_bltn (v := .ty "tuple") (by rfl) B.tuple (by decide +kernel) rfl) pa_nil)))) (pw_and (pt_truth (pv 0) (by intro _; rfl)) (pw_and1 (pt_val (pe_callB call_isi (by rfl) B.isinstance (by decide +kernel) (pa_cons (pe_ix ix_tup (pv 0) pe_int (fun _ _ => rfl)) (pa_cons (pe_bltn (v := .ty "str") (by rfl) B.str (by decide +kernel) rfl) pa_nil)))))))) (pss_one (ps_ret (pe_ix ix_tup (pv 0) pe_int (fun _ _ => rfl)))) pss_nil) (pss_one (ps_ret pe_non))), ?_⟩
    cases hkt : kT d with
    | false =>
      have hw : wdV d = .non := by
        cases d <;> first | rfl | cases hkt
      rw [hw] at q
      exact ⟨v, rfl, v, .ty "tuple", _, _, false, rfl, .ty _, Dq.tyx hd, kit_ty (by rw [kit_tup, hkt]), _, rfl, iteFF rfl q⟩
    | true =>
      cases hd with
      | tup hp ha =>
        rename_i p xs ds
        refine ⟨.ref p, rfl, .ref p, .ty "tuple", _, _, true, rfl, .ty _, tyx_tup hp, kit_ty (show kitB "tuple" "tuple" = some true by decide +kernel), true, rfl, iteTT rfl ?_⟩
        cases ha with
        | nil => exact ⟨.ref p, rfl, false, .inr (.inl ⟨_, hp, rfl⟩), iteFF rfl q⟩
        | cons hx hr' =>
          rename_i x xs d0 ds
          refine ⟨.ref p, rfl, true, .inr (.inl ⟨_, hp, rfl⟩), iteTT rfl ?_⟩
          refine ⟨.ref p, rfl, p, _, 0, _, rfl, rfl, hp, at_of (j := 0) rfl rfl, x, .ty "str", _, _, _, rfl, .ty _, Dq.tyx hx, kit_ty (kit_str d0), _, rfl, ?_⟩
          cases hx with
          | str z => exact iteTT rfl ⟨.ref p, rfl, p, _, 0, _, rfl, rfl, hp, at_of (j := 0) rfl rfl, q⟩
          | _ => exact iteFF rfl q
      | _ => cases hkt
theorem cutT1 {x : V} {xs : List V} : cutV (x :: xs) (some 1) none = xs := by
  unfold cutV
  rw [show HT.sIx (x :: xs).length 0 (some 1) = min 1 (x :: xs).length from HT.sIx_nat _ 0 1, HT.sIx_none, List.length_cons, show min 1 (xs.length + 1) = 1 by omega]
  show List.take (xs.length + 1 - 1) xs = xs
  rw [Nat.add_sub_cancel, List.take_length]
theorem ok_fitsshape {f : Addr} {fd : FuncData} (F : Fun K "fits_shape" "fits_shape" s_fits_shape f fd) (gF : mg "fits_shape" = some (.ref f)) (b : Binds K fd ["thing", "shape", "many"] []) (B : Bl mg) (c_fits : Cal P w K mg base 3 "fits" (spFits K)) : Cal P w K mg base 4 "fits_shape" (spFitsSh K) := by
  refine ⟨f, fd, _, F.ok sc_fits_shape (fun vs H Q E h => ?_) (fun cdv A outer s H vs Q E hr h => ?_), gF, F.kp, b⟩
  · obtain ⟨_, _, _, _, _, _, _, rfl, _⟩ := h
    rfl
  · obtain ⟨p, sq, many, x, xs, ds, ks, rfl, hp, hds, hsq, hk4, q⟩ := h
    refine ⟨_, (pss_cons (ps_if (pt_cmpR op_ne (pe_callB call_len_seq (by rfl) B.len PySem.boot_len (pa_cons (pv 0) pa_nil)) (pe_op op_add (pe_callB call_len_seq (by rfl) B.len PySem.boot_len (pa_cons (pv 1) pa_nil)) pe_int) (nomark _)) (pss_one (ps_ret pe_bl)) pss_nil) (pss_one (ps_ret (pe_callB (cr_all rfl) (by rfl) B.all (by decide +kernel) (pa_cons (pe_lc (own := [("kind", 3), ("item", 4)]) rfl sc_fits_shape.nd (RZ.pi_zipA (by rfl) B.zip (pa_cons (pv 1) (pa_cons (pe_slice sl_tupA (pv 0) (po_some pe_int) po_none) pa_nil))) (blkOk_by (N := N_fits_shape) (sc := defScope s_fits_shape) (by decide +kernel)) (fun _ _ _ _ _ => pgtK (n := 2) K rfl (pgs_cons (pg_name (i := 3) sc_fits_shape.nd rfl (.inl rfl)) (pgs_cons (pg_name (i := 4) sc_fits_shape.nd rfl (.inl rfl)) pgs_nil))) (fun _ _ _ _ _ => pts_nil) (fun _ _ _ _ _ => pe_c c_fits hr (by omega) (by rfl) (pa_cons (pv 3) (pa_cons (pv 4) (pa_cons (pv 2) pa_nil))))) pa_nil))))), ?_⟩
    have hlx := dqall_len hds
    refine ⟨.ref p, rfl, p, _, rfl, .inr hp, .ref sq, rfl, sq, _, rfl, .inr (hsq _), _, _, rfl, rfl, rfl, _, rfl, ?_⟩
    by_cases c : ds.length = ks.length
    · refine iteFF (by simp [hlx, c]) ?_
      refine ⟨.ref sq, rfl, .ref p, rfl, 1, rfl, ?_⟩
      dsimp only [tNoPart]
      refine slA hp fun H1 c1 sm1 hc1 => ?_
      rw [cutT1] at hc1
      have hlk : (ks.map fun k => V.str (kdn k)).length = xs.length := by rw [List.length_map]; omega
      refine ⟨sq, c1, (ks.map fun k => V.str (kdn k)), xs, rfl, .inr ⟨hsq _, hc1, fun D nD => lc_it (walk_zipT hlk rfl) (fun i H' => Same H1 H' ∧ H' D = some (.lst (((List.zipWith (fitD many) ks ds).take i).map V.bl))) ⟨same_new nD, upd_same⟩ (fun i H' _ h => ⟨hsq _, same_sqt h.1 hc1⟩) ?_ ?_⟩⟩
      · rintro i y H2 H3 hi ⟨sm, hD⟩ ⟨T, k, it, rfl, nT, rfl, e1, e2⟩
        have e1 : (ks.map fun k => V.str (kdn k))[i]? = some k := e1
        have e2 : xs[i]? = some it := e2
        rw [List.getElem?_map] at e1
        cases hk : ks[i]? with
        | none => rw [hk] at e1; cases e1
        | some kk =>
          rw [hk] at e1
          have ek : V.str (kdn kk) = k := Option.some.inj e1
          subst ek
          obtain ⟨dd, hdd, hdp⟩ := dqall_get hds e2
          have sm2 := sm.trans (same_new (o := .tup [V.str (kdn kk), it]) nT)
          have hD2 := same_new (o := .tup [V.str (kdn kk), it]) nT _ _ hD
          refine ⟨T, _, rfl, SqT.of upd_same, rfl, _, _, rfl, _, _, rfl, rfl, rfl, tYes_in ⟨_, rfl, _, rfl, _, rfl, kk, it, many, dd, rfl, dq_same (sm1.trans sm2) hdp, fun H4 sm4 => ?_⟩⟩
          refine ⟨_, sm4 _ _ hD2, ?_, fun b' o eb => ?_, ?_⟩
          · rw [List.length_map, List.length_take]
            exact small1000 (by have : (List.zipWith (fitD many) ks ds).length ≤ 4 := by rw [List.length_zipWith]; omega
                                omega)
          · rw [upd_ne (ne_of_none eb nD)]
            exact sm4 _ _ (sm2 _ _ eb)
          · rw [upd_same, List.take_add_one, show (List.zipWith (fitD many) ks ds)[i]? = some (fitD many kk dd) by rw [List.getElem?_zipWith, hk, hdd], List.map_append]
            rfl
      · rintro H2 ⟨sm, hD⟩
        rw [List.take_of_length_le (by rw [List.length_zipWith]; omega)] at hD
        refine ⟨D, _, rfl, SqL.of hD, ?_⟩
        rw [← fitsD_zip c]
        exact q _ (sm1.trans sm)
    · refine iteTT (by simp [hlx]; omega) ?_
      have := q H (Same.refl _)
      rw [fitsD_ne c] at this
      exact this
theorem weOf_eq {x : Str} {w : We} (h : weOf x = some w) : x = wen w := by
  unfold weOf at h
  repeat' split at h
  all_goals first | (cases h; assumption) | cases h
theorem ok_hasshape {f a_SHAPES : Addr} {fd : FuncData} (F : Fun K "has_shape" "has_shape" s_has_shape f fd) (gF : mg "has_shape" = some (.ref f)) (b : Binds K fd ["thing", "many"] []) (mg_SHAPES : mg "SHAPES" = some (.ref a_SHAPES)) (hE : TabE K w a_SHAPES) (hK : KdAt K w a_SHAPES) (hO : Only11 K a_SHAPES) (c_first_word : Cal P w K mg base 1 "first_word" (spFirst K)) (c_fits_shape : Cal P w K mg base 4 "fits_shape" (spFitsSh K)) : Cal P w K mg base 5 "has_shape" (spHasSh K) := by
  refine ⟨f, fd, _, F.ok sc_has_shape (fun vs H Q E h => ?_) (fun cdv A outer s H vs Q E hr h => ?_), gF, F.kp, b⟩
  · obtain ⟨_, _, _, rfl, _⟩ := h
    rfl
  · obtain ⟨v, many, d, rfl, hd, q⟩ := h
    refine ⟨_, (pss_cons (ps_set (i := 2) sc_has_shape.nd rfl (.inl rfl) (pe_c c_first_word hr (by omega) (by rfl) (pa_cons (pv 0) pa_nil))) (pss_one (ps_ret (pe_and (pe_cmpR op_inKq (pv 2) (pe_glob (v := .ref a_SHAPES) (by rfl) mg_SHAPES rfl) (by rfl)) (pe_one (pe_c c_fits_shape hr (by omega) (by rfl) (pa_cons (pv 0) (pa_cons (pe_ix ix_kdict (pe_glob (v := .ref a_SHAPES) (by rfl) mg_SHAPES rfl) (pv 2) (fun _ _ => rfl)) (pa_cons (pv 1) pa_nil))))))))), ?_⟩
    refine ⟨v, rfl, v, d, rfl, hd, ?_⟩
    have bad := @hasD_non many d
    by_cases hw : wdV d = .non
    · rw [hw]
      refine ⟨_, rfl, a_SHAPES, rfl, hK, .inr ⟨rfl, _, rfl, iteFF rfl ?_⟩⟩
      have q := q H (Same.refl _)
      rw [bad hw] at q
      exact q
    · obtain ⟨x, ds, rfl⟩ : ∃ x ds, d = .tuple (.str x :: ds) := by
        unfold wdV at hw
        split at hw
        · exact ⟨_, _, rfl⟩
        · exact absurd rfl hw
      cases hd with
      | tup hp ha =>
        rename_i p xs0
        cases ha with
        | cons hx hds =>
          rename_i y xs
          cases hx
          cases hwo : weOf x with
          | none =>
            refine ⟨_, rfl, a_SHAPES, rfl, hK, .inl ⟨x, none, rfl, hO x hwo, _, rfl, iteFF rfl ?_⟩⟩
            have q := q H (Same.refl _)
            have e : hasD many (.tuple (.str x :: ds)) = false := by
              unfold hasD
              simp only [hwo]
            rw [e] at q
            exact q
          | some we =>
            have ex := weOf_eq hwo
            subst ex
            obtain ⟨sq, hkd, hsq⟩ := hE.2 we
            have hkd' := hkd
            obtain ⟨es, n, u, hl, hk, hns, ru⟩ := hkd'
            refine ⟨_, rfl, a_SHAPES, rfl, hK, .inl ⟨wen we, some u, rfl, hns, _, rfl, iteTT rfl ?_⟩⟩
            refine ⟨.ref p, rfl, _, rfl, a_SHAPES, _, .ref sq, rfl, rfl, hkd, _, rfl, p, sq, many, _, xs, ds, _, rfl, hp, hds, hsq, wsh_len we, fun H' sm => ?_⟩
            have q := q H' sm
            have e : hasD many (.tuple (.str (wen we) :: ds)) = fitsD many (wsh we) ds := by
              unfold hasD
              simp only [weOf_wen]
            rw [e] at q
            exact q
def pkK : List Kd → List V → List V
  | k :: ks, d :: ds => if k = .part then d :: pkK ks ds else pkK ks ds
  | _, _ => []
theorem pkK_len : ∀ (ks : List Kd) (ds : List V), (pkK ks ds).length ≤ ds.length
  | [], _ => Nat.zero_le _
  | _ :: _, [] => Nat.zero_le _
  | k :: ks, d :: ds => by
    have := pkK_len ks ds
    unfold pkK
    split <;> simp only [List.length_cons] <;> omega
theorem pkK_snoc : ∀ {ks : List Kd} {ds : List V} {i : Nat} {k : Kd} {d : V}, ks[i]? = some k → ds[i]? = some d → pkK (ks.take (i + 1)) (ds.take (i + 1)) = pkK (ks.take i) (ds.take i) ++ (if k = .part then [d] else [])
  | [], _, i, _, _, h, _ => by simp at h
  | _ :: _, [], i, _, _, _, h => by simp at h
  | k0 :: ks, d0 :: ds, 0, k, d, h, h2 => by
    have e1 : k0 = k := Option.some.inj h
    have e2 : d0 = d := Option.some.inj h2
    subst e1 e2
    simp [pkK]
  | k0 :: ks, d0 :: ds, i + 1, k, d, h, h2 => by
    have ih := pkK_snoc (ks := ks) (ds := ds) (i := i) h h2
    rw [List.take_succ_cons, List.take_succ_cons, List.take_succ_cons, List.take_succ_cons]
    unfold pkK
    split
    · rw [ih, List.cons_append]
    · exact ih
theorem pkK_dp {K : PySem.W.Frag} {H : Hp} : ∀ {ks : List Kd} {ds : List PyData} {xs : List V}, DqAll K H xs ds → DqAll K H (pkK ks xs) (partsD ks ds)
  | [], [], _, .nil => .nil
  | [], _ :: _, _, .cons _ _ => .nil
  | _ :: _, [], _, .nil => .nil
  | k :: ks, d :: ds, _, .cons a b => by
    unfold pkK partsD
    split
    · exact .cons a (pkK_dp b)
    · exact pkK_dp b
theorem ok_partsD {f a_SHAPES : Addr} {fd : FuncData} (F : Fun K "parts" "parts" s_parts f fd) (gF : mg "parts" = some (.ref f)) (b : Binds K fd ["expression"] []) (B : Bl mg) (mg_SHAPES : mg "SHAPES" = some (.ref a_SHAPES)) (hE : TabE K w a_SHAPES) : Cal P w K mg base 1 "parts" (spPartsD K) := by
  refine ⟨f, fd, _, F.ok sc_parts (fun vs H Q E h => ?_) (fun cdv A outer s H vs Q E hr h => ?_), gF, F.kp, b⟩
  · obtain ⟨_, _, _, _, rfl, _⟩ := h
    rfl
  · obtain ⟨p, x, xs, ds, rfl, hp, hds, hl, q⟩ := h
    obtain ⟨sq, hkd, hsq⟩ := hE.2 x
    have hlx := dqall_len hds
    have hl4 := wsh_len x
    refine ⟨_, (pss_cons (ps_set (i := 1) sc_parts.nd rfl (.inl rfl) (pe_ix ix_kdict (pe_glob (v := .ref a_SHAPES) (by rfl) mg_SHAPES rfl) (pe_ix ix_tup (pv 0) pe_int (fun _ _ => rfl)) (fun _ _ => rfl))) (pss_one (ps_ret (pe_lc (own := [("kind", 2), ("item", 3)]) rfl sc_parts.nd (RZ.pi_zipA (by rfl) B.zip (pa_cons (pv 1) (pa_cons (pe_slice sl_tup (pv 0) (po_some pe_int) po_none) pa_nil))) (blkOk_by (N := N_parts) (sc := defScope s_parts) (by decide +kernel)) (fun _ _ _ _ _ => pgtK (n := 2) K rfl (pgs_cons (pg_name (i := 2) sc_parts.nd rfl (.inl rfl)) (pgs_cons (pg_name (i := 3) sc_parts.nd rfl (.inl rfl)) pgs_nil))) (fun _ _ _ _ _ => pts_one (pt_cmpR op_eq (pv 2) pe_str (nomark _))) (fun _ _ _ _ _ => pv 3))))), ?_⟩
    refine ⟨.ref p, rfl, p, _, 0, _, rfl, rfl, hp, at_of (j := 0) rfl rfl, a_SHAPES, _, .ref sq, rfl, rfl, hkd, ?_⟩
    refine ⟨.ref sq, rfl, .ref p, rfl, 1, rfl, p, _, rfl, hp, ?_, fun c nc => ?_⟩
    · rw [show HT.sIx (V.str (wen x) :: xs).length 0 (some 1) = min 1 (V.str (wen x) :: xs).length from HT.sIx_nat _ 0 1, List.length_cons]
      have : 0 < (wsh x).length := by cases x <;> exact Nat.succ_pos _
      omega
    rw [cutT1]
    have smc : Same H (upd H c (.tup xs)) := same_new nc
    have hc : (upd H c (.tup xs)) c = some (.tup xs) := upd_same
    have hlk : ((wsh x).map fun k => V.str (kdn k)).length = xs.length := by rw [List.length_map]; omega
    refine ⟨sq, c, _, xs, rfl, .inr ⟨hsq _, SqT.of hc, fun D nD => lc_it (walk_zipT hlk rfl) (fun i H' => Same (upd H c (.tup xs)) H' ∧ H' D = some (.lst (pkK ((wsh x).take i) (xs.take i)))) ⟨same_new nD, upd_same⟩ (fun i H' _ h => ⟨hsq _, SqT.of (h.1 _ _ hc)⟩) ?_ ?_⟩⟩
    · rintro i y H1 H2 hi ⟨sm, hD⟩ ⟨T, k, it, rfl, nT, rfl, e1, e2⟩
      have e1 : ((wsh x).map fun k => V.str (kdn k))[i]? = some k := e1
      have e2 : xs[i]? = some it := e2
      rw [List.getElem?_map] at e1
      cases hk : (wsh x)[i]? with
      | none => rw [hk] at e1; cases e1
      | some kk =>
        rw [hk] at e1
        have ek : V.str (kdn kk) = k := Option.some.inj e1
        subst ek
        obtain ⟨dd, hdd, hdp⟩ := dqall_get hds e2
        have sT := same_new (o := .tup [V.str (kdn kk), it]) nT
        have sm2 := sm.trans sT
        have hD2 := sT _ _ hD
        refine ⟨T, _, rfl, SqT.of upd_same, rfl, _, _, rfl, _, _, rfl, rfl, rfl, .str (kdn kk), rfl, rfl, _, rfl, ?_⟩
        by_cases cq : kk = .part
        · subst cq
          refine iteTT (by decide) ⟨it, rfl, _, hD2, ?_, fun b' o eb => ?_, ?_⟩
          · refine small1000 (Nat.le_trans (pkK_len _ _) ?_)
            rw [List.length_take]
            omega
          · rw [upd_ne (ne_of_none eb nD)]
            exact sm2 _ _ eb
          · rw [upd_same, pkK_snoc hk e2, if_pos rfl]
        · refine iteFF (by cases kk <;> first | exact absurd rfl cq | decide) ⟨sm2, ?_⟩
          rw [hD2, pkK_snoc hk e2, if_neg cq, List.append_nil]
    · rintro H1 ⟨sm, hD⟩
      rw [List.take_of_length_le (by rw [← hlk, List.length_map]; exact Nat.le_refl _), List.take_length] at hD
      have smt := smc.trans sm
      exact q _ D _ smt (smc.free nD) hD (dqall_same smt (pkK_dp hds))
end
end NG

namespace NG
open PySem PySem.Spec PyProof.Rows L2
theorem addE_drop {l : List Nat} {t i j : Nat} (h : l[i]? = some j) : addE t (l.drop i) = if j = 0 then 0 else addE (t + j) (l.drop (i + 1)) := by
  have hi := (List.getElem?_eq_some_iff.mp h).1
  rw [List.drop_eq_getElem_cons hi, (List.getElem?_eq_some_iff.mp h).2]
  rfl
theorem cntE_has {many : Int} {k : Nat} : ∀ {d : PyData}, hasD many d = true → ∃ w ds, d = .tuple (.str (wen w) :: ds) ∧ fitsD many (wsh w) ds = true
  | .tuple (.str x :: ds), h => by
    unfold hasD at h
    cases hw : weOf x with
    | none => simp only [hw] at h; cases h
    | some w =>
      simp only [hw] at h
      exact ⟨w, ds, by rw [weOf_eq hw], h⟩
  | .tuple [], h => by cases h
  | .tuple (.none :: _), h => by cases h
  | .tuple (.bool _ :: _), h => by cases h
  | .tuple (.int _ :: _), h => by cases h
  | .tuple (.list _ :: _), h => by cases h
  | .tuple (.tuple _ :: _), h => by cases h
  | .tuple (.dict _ :: _), h => by cases h
  | .none, h => by cases h
  | .bool _, h => by cases h
  | .int _, h => by cases h
  | .str _, h => by cases h
  | .list _, h => by cases h
  | .dict _, h => by cases h
theorem cntE_not {many : Int} {k : Nat} : ∀ {d : PyData}, hasD many d = false → cntE many (k + 1) d = 0
  | .tuple (.str x :: ds), h => by
    unfold hasD at h
    unfold cntE
    cases hw : weOf x with
    | none => simp only [hw]
    | some w =>
      simp only [hw] at h ⊢
      rw [if_neg (by rw [h]; exact Bool.false_ne_true)]
  | .tuple [], h => rfl
  | .tuple (.none :: _), h => rfl
  | .tuple (.bool _ :: _), h => rfl
  | .tuple (.int _ :: _), h => rfl
  | .tuple (.list _ :: _), h => rfl
  | .tuple (.tuple _ :: _), h => rfl
  | .tuple (.dict _ :: _), h => rfl
  | .none, h => rfl
  | .bool _, h => rfl
  | .int _, h => rfl
  | .str _, h => rfl
  | .list _, h => rfl
  | .dict _, h => rfl
section
variable {P : Program} {w : World} {K : PySem.W.Frag} {mg : Str → Option Value} {base : Heap}
theorem ok_cntE {f : Addr} {fd : FuncData} (F : Fun K "count_parts" "count_parts" s_count_parts f fd) (gF : mg "count_parts" = some (.ref f)) (b : Binds K fd ["thing", "many", "deep"] []) (c_has_shape : Cal P w K mg base 5 "has_shape" (spHasSh K)) (c_parts : Cal P w K mg base 1 "parts" (spPartsD K)) : ∀ n, Cal P w K mg base (n + 6) "count_parts" (spCntE K n)
  | 0 => cal_never F gF b fun vs H Q E => by rintro ⟨_, _, k, _, _, hk, _⟩; omega
  | n + 1 => by
    have c_count_parts := ok_cntE F gF b c_has_shape c_parts n
    refine ⟨f, fd, _, F.ok sc_count_parts (fun vs H Q E h => ?_) (fun cdv A outer s H vs Q E hr h => ?_), gF, F.kp, b⟩
    · obtain ⟨_, _, _, _, rfl, _⟩ := h
      rfl
    · obtain ⟨v, many, k, d, rfl, hk, hd, q⟩ := h
      refine ⟨_, (pss_cons (ps_if (PW.pt (pw_or (pt_cmpR op_eq (pv 2) pe_int (nomark _)) (pw_or1 (pt_not (pt_val (pe_c c_has_shape hr (by omega) (by rfl) (pa_cons (pv 0) (pa_cons (pv 1) pa_nil)))))))) (pss_one (ps_ret pe_int)) pss_nil) (pss_cons (ps_set (i := 3) sc_count_parts.nd rfl (.inl rfl) pe_int) (pss_cons (ps_for PassesOwn.never rfl (pi_list (pe_c c_parts hr (by omega) (by rfl) (pa_cons (pv 0) pa_nil))) (pg_name (i := 4) sc_count_parts.nd rfl (.inl rfl)) (pss_cons (ps_set (i := 5) sc_count_parts.nd rfl (.inl rfl) (pe_c c_count_parts hr (by omega) (by rfl) (pa_cons (pv 4) (pa_cons (pv 1) (pa_cons (pe_op op_sub (pv 2) pe_int) pa_nil))))) (pss_cons (ps_if (pt_cmpR op_eq (pv 5) pe_int (nomark _)) (pss_one (ps_ret pe_int)) pss_nil) (pss_one (ps_aug (i := 3) sc_count_parts.nd rfl (.inl rfl) (pv 5) ip_add))))) (pss_one (ps_ret (pv 3)))))), ?_⟩
      cases k with
      | zero => exact ⟨_, rfl, rfl, _, rfl, iteTT (by rfl) (iteTT rfl (q _ (Same.refl _)))⟩
      | succ k =>
        refine ⟨_, rfl, rfl, _, rfl, iteFF (by rw [decide_eq_false (by intro e; cases e)]) ?_⟩
        refine ⟨_, rfl, _, rfl, v, many, d, rfl, hd, fun H1 sm1 => ⟨_, rfl, ?_⟩⟩
        cases hh : hasD many d with
        | false =>
          rw [cntE_not hh] at q
          exact iteTT rfl (q _ sm1)
        | true =>
          obtain ⟨x, ds, rfl, c⟩ := cntE_has (k := 0) hh
          cases hd with
          | @tup p xs0 _ hp ha =>
            cases ha with
            | @cons y xs _ _ hy hds =>
              cases hy
              rw [cntE_eq, if_pos c] at q
              refine iteFF rfl ?_
              refine ⟨_, rfl, p, x, xs, ds, rfl, same_sqt sm1 hp, dqall_same sm1 hds, fitsD_len c, fun H2 l us sm2 nl hl hus => ?_⟩
              have hlen := dqall_len hus
              refine ⟨l, rfl, ⟨_, SqL.of hl⟩, for_list (xs := us) (fun i σ H' => ∃ (t : Nat) (y4 y5 : Option V), σ = [some (.ref p), some (.int many), some (.int ((k + 1 : Nat) : Int)), some (.int (t : Int)), y4, y5] ∧ Same H2 H' ∧ addE 1 ((partsD (wsh x) ds).map (cntE many k)) = addE t (((partsD (wsh x) ds).map (cntE many k)).drop i)) ⟨1, none, none, rfl, Same.refl _, rfl⟩ (fun i σ H' _ h => ?_) ?_ ?_⟩
              · obtain ⟨_, _, _, _, sm, _⟩ := h
                exact SqL.of (sm _ _ hl)
              · rintro i y σ H3 hy ⟨t, y4, y5, rfl, sm3, e⟩
                obtain ⟨dd, hdd, hdp⟩ := dqall_get hus hy
                have hm : ((partsD (wsh x) ds).map (cntE many k))[i]? = some (cntE many k dd) := by rw [List.getElem?_map, hdd]; rfl
                rw [addE_drop hm] at e
                refine ⟨_, rfl, _, rfl, _, rfl, _, _, rfl, rfl, y, many, k, dd, ?_, by omega, dq_same sm3 hdp, fun H4 sm4 => ?_⟩
                · show [y, V.int many, V.int (((k + 1 : Nat) : Int) - 1)] = _
                  rw [show ((k + 1 : Nat) : Int) - 1 = (k : Int) by omega]
                by_cases c0 : cntE many k dd = 0
                · rw [if_pos c0] at e
                  rw [e] at q
                  exact ⟨_, rfl, rfl, _, rfl, iteTT (by rw [c0]; rfl) (q _ (((sm1.trans sm2).trans sm3).trans sm4))⟩
                · rw [if_neg c0] at e
                  refine ⟨_, rfl, rfl, _, rfl, iteFF (decide_eq_false fun e => c0 (by have := V.int.inj e; omega)) ?_⟩
                  exact ⟨_, rfl, _, rfl, _, _, rfl, rfl, t + cntE many k dd, _, _, rfl, sm3.trans sm4, e⟩
              · rintro σ H3 ⟨t, y4, y5, rfl, sm3, e⟩
                rw [List.drop_of_length_le (by rw [List.length_map, hlen]; exact Nat.le_refl _)] at e
                rw [e] at q
                exact ⟨_, rfl, q _ ((sm1.trans sm2).trans sm3)⟩
theorem fn_isex {f : Addr} {fd : FuncData} (F : Fun K "is_expression" "is_expression" s_is_expression f fd) {t1 t2 : Tok} (mg_MOST_DEEP : mg "MOST_DEEP" = some (.int 8 t1)) (mg_MOST_PARTS : mg "MOST_PARTS" = some (.int 40 t2)) (c_count_parts : Cal P w K mg base 15 "count_parts" (spCntE K 9)) : FnOk P w K mg base CX0 16 f fd ["thing", "many"] (spIsEx K) := by
  refine F.ok sc_is_expression (fun vs H Q E h => ?_) (fun cdv A outer s H vs Q E hr h => ?_)
  · obtain ⟨_, _, _, rfl, _⟩ := h
    rfl
  · obtain ⟨v, many, d, rfl, hd, q⟩ := h
    refine ⟨_, (pss_one (ps_ret (pe_chain op_le op_le pe_int (pe_c c_count_parts hr (by omega) (by rfl) (pa_cons (pv 0) (pa_cons (pv 1) (pa_cons (pe_glob (v := .int (8)) (by rfl) mg_MOST_DEEP ⟨_, rfl⟩) pa_nil)))) (pe_glob (v := .int (40)) (by rfl) mg_MOST_PARTS ⟨_, rfl⟩)))), ?_⟩
    refine ⟨_, rfl, _, rfl, v, many, 8, d, rfl, by decide, hd, fun H1 sm1 => ?_⟩
    have q := q H1 sm1
    unfold isEx at q
    refine ⟨_, _, rfl, rfl, _, rfl, ?_⟩
    by_cases c : 1 ≤ cntE many 8 d
    · rw [decide_eq_true c, Bool.true_and] at q
      refine iteTT (decide_eq_true (by omega)) ⟨_, _, rfl, rfl, ?_⟩
      show Q (.bl (decide (((cntE many 8 d : Nat) : Int) ≤ 40))) H1
      rw [show decide (((cntE many 8 d : Nat) : Int) ≤ 40) = decide (cntE many 8 d ≤ 40) by rw [decide_eq_decide]; omega]
      exact q
    · rw [decide_eq_false c, Bool.false_and] at q
      exact iteFF (decide_eq_false (by omega)) q
end
end NG

namespace NG
open PySem PySem.Spec PyProof.Rows L2
section
variable {P : Program} {w : World} {K : PySem.W.Frag} {mg : Str → Option Value} {base : Heap}
theorem ok_hand {f : Addr} {fd : FuncData} (F : Fun K "_law_hand" "_law_hand" s_L_hand f fd) (gF : mg "_law_hand" = some (.ref f)) (b : Binds K fd ["_law_script", "_law_k"] []) (B : Bl mg) : Cal P w K mg base 1 "_law_hand" (spHand K) := by
  refine ⟨f, fd, _, F.ok sc_L_hand (fun vs H Q E h => ?_) (fun cdv A outer s H vs Q E hr h => ?_), gF, F.kp, b⟩
  · obtain ⟨a, m, n, rfl, _⟩ := h
    rfl
  · obtain ⟨a, k, ns, rfl, hk0, hk1, hS, q⟩ := h
    refine ⟨_, (pss_cons (ps_set (i := 2) sc_L_hand.nd rfl (.inl rfl) (pe_cut (pe_ifExp (pt_cmpR op_lt (pv 1) (pe_callB call_len_seq (by rfl) B.len PySem.boot_len (pa_cons (pv 0) pa_nil)) (nomark _)) (pe_ix ix_list (pv 0) (pv 1) (fun _ _ => rfl)) pe_int))) (pss_cons (ps_set (i := 3) sc_L_hand.nd rfl (.inl rfl) (pe_op op_mul (pe_op op_mod (pe_callB call_abs (by rfl) B.abs (by decide +kernel) (pa_cons (pv 2) pa_nil)) (pe_op op_mulW (pe_op op_pow pe_int pe_int) (pe_op op_pow pe_int pe_int))) (pe_callTy call_int1 (by rfl) B.int (by decide +kernel) (pa_cons (pe_cmpR op_ge (pe_callB call_abs (by rfl) B.abs (by decide +kernel) (pa_cons (pv 2) pa_nil)) (pe_op op_pow pe_int pe_int) (nomark _)) pa_nil)))) (pss_one (ps_ret (pe_lst (pa_cons (pv 3) (pa_cons (pe_op op_add (pe_op op_add (pe_op op_mod (pv 2) pe_int) (pe_op op_mul pe_int (pv 1))) pe_int) (pa_cons pe_int pa_nil)))))))), ?_⟩
    refine ⟨fun v H' => H' = H ∧ ∃ c : Int, v = .int c, ?_, fun v H' hv => ?_⟩
    · refine ⟨.int k, rfl, .ref a, rfl, a, _, rfl, .inl hS, k, _, rfl, rfl, _, rfl, iteD (fun c => ?_) (fun c => ?_)⟩
      · exact ⟨.ref a, rfl, .int k, rfl, a, _, k, _, rfl, rfl, hS, at_int hk0 (by rw [List.length_map] at c; exact c), rfl, _, rfl⟩
      · exact ⟨rfl, 0, rfl⟩
    · obtain ⟨rfl, c, rfl⟩ := hv
      refine ⟨.int c, rfl, c, rfl, 10, 60, rfl, rfl, ⟨by decide, by decide, by decide⟩, 10, 60, rfl, rfl, ⟨by decide, by decide, by decide⟩, _, _, rfl, rfl, wide_mul (a := 300) (b := 300) (by decide) (by decide) (by decide) (by decide) (by decide), _, _, rfl, rfl, (by show (0 : Int) < 10 ^ 60 * 10 ^ 60; decide), ?_⟩
      refine ⟨.int c, rfl, c, rfl, 10, 18, rfl, rfl, ⟨by decide, by decide, by decide⟩, _, _, rfl, rfl, .inr ⟨_, rfl, ?_⟩⟩
      have h01 : ∀ z : Bool, (0 : Int) ≤ (if z = true then 1 else 0) ∧ (if z = true then (1 : Int) else 0) ≤ 1 := by
        intro z
        cases z <;> decide
      refine ⟨_, _, rfl, rfl, .inr ⟨by have := h01 (decide ((10 : Int) ^ (18 : Int).toNat ≤ if c < 0 then -c else c)); omega, by have := h01 (decide ((10 : Int) ^ (18 : Int).toNat ≤ if c < 0 then -c else c)); omega⟩, ?_⟩
      refine ⟨_, rfl, .int c, rfl, c, 2305843009213693951, rfl, rfl, (by show (0 : Int) < 2305843009213693951; decide), .int k, rfl, 104729, k, rfl, rfl, .inl ⟨by decide, by decide⟩, _, _, rfl, rfl, _, 7, rfl, rfl, (by show 3 ≤ sizeLine; decide), fun p np => ?_⟩
      refine q p _ _ np (Int.mul_nonneg (Int.emod_nonneg _ (by show (10 : Int) ^ 60 * 10 ^ 60 ≠ 0; decide)) (h01 _).1) ?_
      have : 0 ≤ c % 2305843009213693951 := Int.emod_nonneg _ (by decide)
      omega
theorem ok_of {f : Addr} {fd : FuncData} (F : Fun K "_law_of" "_law_of" s_L_of f fd) (gF : mg "_law_of" = some (.ref f)) (b : Binds K fd ["_law_hand_here", "_law_some"] []) (B : Bl mg) (c_L_take : Cal P w K mg base 1 "_law_take" spTake) : Cal P w K mg base 2 "_law_of" (spOf K) := by
  refine ⟨f, fd, _, F.ok sc_L_of (fun vs H Q E h => ?_) (fun cdv A outer s H vs Q E hr h => ?_), gF, F.kp, b⟩
  · obtain ⟨a, m, n, _, rfl, _⟩ := h
    rfl
  · obtain ⟨a, l, xs, n, rfl, hal, hl, h0, h1, hh, hn, q⟩ := h
    refine ⟨_, (pss_one (ps_ret (pe_ix ix_list (pv 1) (pe_c c_L_take hr (by omega) (by rfl) (pa_cons (pv 0) (pa_cons (pe_callB call_len_seq (by rfl) B.len PySem.boot_len (pa_cons (pv 1) pa_nil)) pa_nil))) (fun _ _ => rfl)))), ?_⟩
    refine ⟨.ref l, rfl, .ref a, rfl, .ref l, rfl, l, _, rfl, .inl (SqL.of hl), ?_⟩
    refine ⟨a, _, n, rfl, by omega, by omega, hh, hn, fun H' r bt hh' r0 r1 => ?_⟩
    have hl' : H' l = some (.lst xs) := bt _ _ (Ne.symm hal) hl
    obtain ⟨v, hv, hm⟩ := at_mem (xs := xs) r0 r1
    exact ⟨l, _, r, v, rfl, rfl, SqL.of hl', hv, q _ _ bt hh' hm⟩
theorem ok_figure {f : Addr} {fd : FuncData} (F : Fun K "_law_figure" "_law_figure" s_L_figure f fd) (gF : mg "_law_figure" = some (.ref f)) (b : Binds K fd ["_law_hand_here"] []) (B : Bl mg) (c_L_take : Cal P w K mg base 1 "_law_take" spTake) (c_L_of : Cal P w K mg base 2 "_law_of" (spOf K)) : Cal P w K mg base 3 "_law_figure" spFigure := by
  refine ⟨f, fd, _, F.ok sc_L_figure (fun vs H Q E h => ?_) (fun cdv A outer s H vs Q E hr h => ?_), gF, F.kp, b⟩
  · obtain ⟨a, m, rfl, _⟩ := h
    rfl
  · obtain ⟨a, n, rfl, hh, hn, q⟩ := h
    refine ⟨_, (pss_cons (ps_set (i := 1) sc_L_figure.nd rfl (.inl rfl) (pe_lst (pa_cons pe_int (pa_cons pe_int (pa_cons (pe_un un_neg pe_int) (pa_cons pe_int (pa_cons pe_int (pa_cons pe_int (pa_cons pe_int (pa_cons (pe_un un_neg pe_int) (pa_cons pe_int (pa_cons (pe_un un_neg pe_int) pa_nil)))))))))))) (pss_one (ps_ret (pe_c c_L_of hr (by omega) (by rfl) (pa_cons (pv 0) (pa_cons (pe_op op_cat (pv 1) (pe_lst (pa_cons (pe_op op_sub (pe_c c_L_take hr (by omega) (by rfl) (pa_cons (pv 0) (pa_cons pe_int pa_nil))) pe_int) (pa_cons (pe_op op_sub (pe_c c_L_take hr (by omega) (by rfl) (pa_cons (pv 0) (pa_cons pe_int pa_nil))) pe_int) pa_nil)))) pa_nil)))))), ?_⟩
    refine ⟨_, rfl, _, rfl, _, rfl, (by show 10 ≤ sizeLine; decide), fun l nl => ?_⟩
    have hla := hh.ne nl
    have hl : (upd H l (.lst [.int 0, .int 1, .int (-1), .int 50, .int 100, .int 250, .int 500, .int (-500), .int 1000, .int (-1000)])) l = _ := upd_same
    refine ⟨.ref a, rfl, .ref l, rfl, .ref a, rfl, a, 2001, n, rfl, by decide, by decide, hh.new nl, by omega, fun H1 r1 b1 hh1 r10 r11 => ⟨_, _, rfl, rfl, ?_⟩⟩
    refine ⟨.ref a, rfl, a, 201, n + 1, rfl, by decide, by decide, hh1, by omega, fun H2 r2 b2 hh2 r20 r21 => ⟨_, _, rfl, rfl, ?_⟩⟩
    refine ⟨(by show 2 ≤ sizeLine; decide), fun l2 nl2 => ?_⟩
    have hl2a := hh2.ne nl2
    have e1 : H2 l = some (.lst [.int 0, .int 1, .int (-1), .int 50, .int 100, .int 250, .int 500, .int (-500), .int 1000, .int (-1000)]) := b2 _ _ hla (b1 _ _ hla hl)
    refine ⟨l, l2, _, _, rfl, rfl, by rw [upd_ne (ne_of_none e1 nl2)]; exact e1, upd_same, (by show 12 ≤ sizeLine; decide), fun l3 nl3 => ?_⟩
    have hh3 := (hh2.new (o := .lst [.int (r1 - 1000), .int (r2 - 100)]) nl2)
    refine ⟨a, l3, _, n + 2, rfl, (hh3.ne nl3).symm, upd_same, (by show 0 < 12; decide), (by show 12 ≤ 1000; decide), hh3.new nl3, by omega, fun H4 v b4 hh4 hv => ?_⟩
    have bb : But a H H4 := (((((But.new nl).trans b1).trans b2).trans (But.new nl2)).trans (But.new nl3)).trans b4
    have key : ∃ c : Int, v = .int c ∧ -1000 ≤ c ∧ c ≤ 1000 := by
      simp only [List.cons_append, List.nil_append, List.mem_cons, List.not_mem_nil, or_false] at hv
      rcases hv with rfl | rfl | rfl | rfl | rfl | rfl | rfl | rfl | rfl | rfl | rfl | rfl
      all_goals exact ⟨_, rfl, by omega, by omega⟩
    obtain ⟨c, rfl, c0, c1⟩ := key
    exact q _ _ bb hh4 c0 c1
end
end NG

namespace NG
open PySem PySem.Spec PyProof.Rows L2
/-! ### the law's own look -/
def frm : We → Str
  | .fig => "c"
  | .reg => "i"
  | .share => "j"
  | .two _ => "AA"
  | .times => "fA"
  | .by => "iA"
  | .when => "icAA"
  | .whr => "jmAA"
def formsK : List (Key × V) := [(.inr "fig", .str "c"), (.inr "reg", .str "i"), (.inr "share", .str "j"), (.inr "sum", .str "AA"), (.inr "less", .str "AA"), (.inr "times", .str "fA"), (.inr "by", .str "iA"), (.inr "least", .str "AA"), (.inr "most", .str "AA"), (.inr "when", .str "icAA"), (.inr "where", .str "jmAA")]
theorem forms_in (w : We) : valV formsK (.inr (wen w)) = some (.str (frm w)) := by
  cases w with
  | two o => cases o <;> decide
  | _ => decide
theorem forms_out {x : Str} (h : weOf x = none) : valV formsK (.inr x) = none := by
  unfold valV
  have h2 : ∀ kv ∈ formsK, decide (kv.1 = (.inr x : Key)) = false := by
    intro kv hm
    refine decide_eq_false fun e => ?_
    have : ∀ y : Str, weOf y ≠ none → (Sum.inr y : Key) ≠ .inr x := fun y hy z => hy (by rw [Sum.inr.inj z]; exact h)
    simp only [formsK, List.mem_cons, List.not_mem_nil, or_false] at hm
    rcases hm with rfl | rfl | rfl | rfl | rfl | rfl | rfl | rfl | rfl | rfl | rfl <;> exact this _ (by decide) e
  rw [List.find?_eq_none.mpr fun kv hm => by rw [h2 kv hm]; exact Bool.false_ne_true]
  rfl
def ltr : Kd → Str
  | .part => "A"
  | .sign => "j"
  | .figure => "c"
  | .place => "i"
  | .factor => "f"
  | .line => "m"
theorem frm_len (w : We) : (frm w).length = (wsh w).length := by
  cases w with
  | two o => cases o <;> rfl
  | _ => rfl
theorem frm_at (w : We) (i : Nat) (k : Kd) (h : (wsh w)[i]? = some k) : sgV (frm w) i = some (.str (ltr k)) := by
  have hi : i < (wsh w).length := (List.getElem?_eq_some_iff.mp h).1
  have h4 := wsh_len w
  cases w with
  | two o => match i, hi, h with
    | 0, _, h => cases h; rfl
    | 1, _, h => cases h; rfl
  | fig => match i, hi, h with
    | 0, _, h => cases h; rfl
  | reg => match i, hi, h with
    | 0, _, h => cases h; rfl
  | share => match i, hi, h with
    | 0, _, h => cases h; rfl
  | times => match i, hi, h with
    | 0, _, h => cases h; rfl
    | 1, _, h => cases h; rfl
  | «by» => match i, hi, h with
    | 0, _, h => cases h; rfl
    | 1, _, h => cases h; rfl
  | when => match i, hi, h with
    | 0, _, h => cases h; rfl
    | 1, _, h => cases h; rfl
    | 2, _, h => cases h; rfl
    | 3, _, h => cases h; rfl
  | whr => match i, hi, h with
    | 0, _, h => cases h; rfl
    | 1, _, h => cases h; rfl
    | 2, _, h => cases h; rfl
    | 3, _, h => cases h; rfl
def bnL (many : Int) : Kd → Int × Int
  | .sign => (0, many - 1)
  | k => bndE k
theorem fitD_bnL {many : Int} {k : Kd} (h : k ≠ .part) (d : PyData) : fitD many k d = inD (bnL many k).1 (bnL many k).2 d := by
  cases k <;> first | rfl | exact absurd rfl h
def endsK (t1 t2 t3 t4 t5 : Addr) : List (Key × V) := [(.inr "c", .ref t1), (.inr "i", .ref t2), (.inr "j", .ref t3), (.inr "f", .ref t4), (.inr "m", .ref t5)]
/-- what the look counts: as cntE, 99 and more where that's nought -/
def SzOk (c : Nat) (z : Int) : Prop := (0 < c → z = c) ∧ (c = 0 → 99 ≤ z)
def spForms : Sp := fun vs H Q _ => vs = [] ∧ ∀ H' p, Same H H' → H' p = some (.dK formsK) → Q (.ref p) H'
def spSize (K : PySem.W.Frag) (n : Nat) : Sp := fun vs H Q _ => ∃ (v : V) (many : Int) (k : Nat) (d : PyData), vs = [v, .int many, .int (9 - (k : Int))] ∧ k < n ∧ k ≤ 8 ∧ Dq K H v d ∧ ∀ H' z, Same H H' → SzOk (cntE many k d) z → Q (.int z) H'
def spLIs (K : PySem.W.Frag) : Sp := fun vs H Q _ => ∃ (v : V) (many : Int) (d : PyData), vs = [v, .int many] ∧ Dq K H v d ∧ ∀ H', Same H H' → Q (.bl (isEx many d)) H'
theorem fitsD_snoc {many : Int} : ∀ {ks : List Kd} {ds : List PyData} {i : Nat} {k : Kd} {d : PyData}, ks[i]? = some k → ds[i]? = some d → fitsD many (ks.take (i + 1)) (ds.take (i + 1)) = (fitsD many (ks.take i) (ds.take i) && fitD many k d)
  | [], _, i, _, _, h, _ => by simp at h
  | _ :: _, [], i, _, _, _, h => by simp at h
  | k0 :: ks, d0 :: ds, 0, k, d, h, h2 => by
    have e1 : k0 = k := Option.some.inj h
    have e2 : d0 = d := Option.some.inj h2
    subst e1 e2
    simp [fitsD]
  | k0 :: ks, d0 :: ds, i + 1, k, d, h, h2 => by
    have ih := fitsD_snoc (many := many) (ks := ks) (ds := ds) (i := i) h h2
    rw [List.take_succ_cons, List.take_succ_cons, List.take_succ_cons, List.take_succ_cons]
    unfold fitsD
    rw [ih, Bool.and_assoc]
theorem fitsD_take {many : Int} : ∀ (i : Nat) {ks : List Kd} {ds : List PyData}, fitsD many ks ds = true → fitsD many (ks.take i) (ds.take i) = true
  | 0, _, _, _ => rfl
  | _ + 1, [], [], _ => rfl
  | i + 1, k :: ks, d :: ds, h => by
    rw [List.take_succ_cons, List.take_succ_cons]
    unfold fitsD at h ⊢
    rw [Bool.and_eq_true] at h ⊢
    exact ⟨h.1, fitsD_take i h.2⟩
  | _ + 1, [], _ :: _, h => by cases h
  | _ + 1, _ :: _, [], h => by cases h
theorem addE_cons (t j : Nat) (l : List Nat) : addE t (j :: l) = if j = 0 then 0 else addE (t + j) l := rfl
theorem addE_app0 : ∀ {l : List Nat} {t i : Nat}, 0 < t → (addE t l = 0 ∨ i = 0) → addE t (l ++ [i]) = 0
  | [], t, i, h, h2 => by
    have hi : i = 0 := h2.resolve_left (by show ¬ t = 0; omega)
    rw [List.nil_append, addE_cons, if_pos hi]
  | j :: l, t, i, h, h2 => by
    rw [List.cons_append, addE_cons]
    by_cases c : j = 0
    · rw [if_pos c]
    · rw [if_neg c]
      rw [addE_cons, if_neg c] at h2
      exact addE_app0 (by omega) h2
theorem addE_app1 : ∀ {l : List Nat} {t i : Nat}, 0 < addE t l → 0 < i → addE t (l ++ [i]) = addE t l + i
  | [], t, i, h, h2 => by
    rw [List.nil_append, addE_cons, if_neg (by omega)]
    rfl
  | j :: l, t, i, h, h2 => by
    rw [addE_cons] at h
    by_cases c : j = 0
    · rw [if_pos c] at h
      omega
    · rw [if_neg c] at h
      rw [List.cons_append, addE_cons, addE_cons, if_neg c, if_neg c]
      exact addE_app1 h h2
theorem szOk_add {l : List Nat} {i : Nat} {z z2 : Int} (h1 : SzOk (addE 1 l) z) (h2 : SzOk i z2) (hz : 1 ≤ z) : SzOk (addE 1 (l ++ [i])) (z + z2) := by
  rcases Nat.eq_zero_or_pos (addE 1 l) with a | a <;> rcases Nat.eq_zero_or_pos i with c | c
  · rw [addE_app0 (by decide) (.inl a)]
    have := h1.2 a
    have := h2.2 c
    exact ⟨fun h => by omega, fun _ => by omega⟩
  · rw [addE_app0 (by decide) (.inl a)]
    have := h1.2 a
    have := h2.1 c
    exact ⟨fun h => by omega, fun _ => by omega⟩
  · rw [addE_app0 (by decide) (.inr c)]
    have := h2.2 c
    exact ⟨fun h => by omega, fun _ => by omega⟩
  · rw [addE_app1 a c]
    have := h1.1 a
    have := h2.1 c
    exact ⟨fun h => by omega, fun h => by omega⟩
section
variable {P : Program} {w : World} {K : PySem.W.Frag} {mg : Str → Option Value} {base : Heap}
theorem ok_forms {f : Addr} {fd : FuncData} (F : Fun K "_law_forms" "_law_forms" s_L_forms f fd) (gF : mg "_law_forms" = some (.ref f)) (b : Binds K fd [] []) : Cal P w K mg base 1 "_law_forms" spForms := by
  refine ⟨f, fd, _, F.ok sc_L_forms (fun vs H Q E h => ?_) (fun cdv A outer s H vs Q E hr h => ?_), gF, F.kp, b⟩
  · obtain ⟨rfl, _⟩ := h
    rfl
  · obtain ⟨rfl, q⟩ := h
    refine ⟨_, (pss_cons (ps_set (i := 0) sc_L_forms.nd rfl (.inl rfl) (pe_disp (pps_cons pe_str pe_str (pps_cons pe_str pe_str (pps_cons pe_str pe_str (pps_cons pe_str pe_str (pps_cons pe_str pe_str (pps_cons pe_str pe_str (pps_cons pe_str pe_str pps_nil))))))) (by rfl) (by rfl) (by simp) (by decide))) (pss_cons (ps_expr (pe_bm PySem.F.plainAttrs_dict PySem.F.slot_dict_update PySem.F.type_dict_update mt_dupdate (pv 0) (pa_cons (pe_disp (pps_cons pe_str pe_str (pps_cons pe_str pe_str (pps_cons pe_str pe_str (pps_cons pe_str pe_str pps_nil)))) (by rfl) (by rfl) (by simp) (by decide)) pa_nil))) (pss_one (ps_ret (pv 0))))), ?_⟩
    refine fun p np => ⟨upd_same, [(.inr "fig", .str "c"), (.inr "reg", .str "i"), (.inr "share", .str "j"), (.inr "sum", .str "AA"), (.inr "less", .str "AA"), (.inr "times", .str "fA"), (.inr "by", .str "iA")], rfl, by decide, ?_⟩
    have e1 : (upd (upd H p (.dK [])) p (.dK (mergeK [] [(.inr "fig", .str "c"), (.inr "reg", .str "i"), (.inr "share", .str "j"), (.inr "sum", .str "AA"), (.inr "less", .str "AA"), (.inr "times", .str "fA"), (.inr "by", .str "iA")]))) p = some (.dK [(.inr "fig", .str "c"), (.inr "reg", .str "i"), (.inr "share", .str "j"), (.inr "sum", .str "AA"), (.inr "less", .str "AA"), (.inr "times", .str "fA"), (.inr "by", .str "iA")]) := by rw [upd_same]; rfl
    have s1 : Same H (upd (upd H p (.dK [])) p (.dK (mergeK [] [(.inr "fig", .str "c"), (.inr "reg", .str "i"), (.inr "share", .str "j"), (.inr "sum", .str "AA"), (.inr "less", .str "AA"), (.inr "times", .str "fA"), (.inr "by", .str "iA")]))) := fun b o e => by
      rw [upd_ne (ne_of_none e np)]
      exact same_new np _ _ e
    generalize upd (upd H p (.dK [])) p (.dK (mergeK [] [(.inr "fig", .str "c"), (.inr "reg", .str "i"), (.inr "share", .str "j"), (.inr "sum", .str "AA"), (.inr "less", .str "AA"), (.inr "times", .str "fA"), (.inr "by", .str "iA")])) = H1 at e1 s1 ⊢
    refine ⟨.ref p, rfl, .inr (.inr (.inl ⟨rfl, .inl ⟨_, e1⟩⟩)), fun p2 np2 => ⟨upd_same, [(.inr "least", .str "AA"), (.inr "most", .str "AA"), (.inr "when", .str "icAA"), (.inr "where", .str "jmAA")], rfl, by decide, ?_⟩⟩
    have hpp : p ≠ p2 := ne_of_none e1 np2
    refine ⟨p, p2, _, _, rfl, rfl, hpp, (by rw [upd_ne hpp, upd_ne hpp]; exact e1), upd_same, (by show 7 + 4 ≤ sizeLine; decide), .ref p, rfl, ?_⟩
    · refine q _ p (fun b o e => ?_) (by rw [upd_same]; rfl)
      have h1 := s1 b o e
      have hb : b ≠ p := ne_of_none e np
      have hb2 : b ≠ p2 := ne_of_none h1 np2
      rw [upd_ne hb, upd_ne hb2, upd_ne hb2]
      exact h1
theorem szOk_bad {many : Int} {k : Nat} {d : PyData} (h : hasD many d = false) : SzOk (cntE many (k + 1) d) 99 := by
  rw [cntE_not h]
  exact ⟨fun h => by omega, fun _ => by omega⟩
theorem ok_size {f : Addr} {fd : FuncData} (F : Fun K "_law_size" "_law_size" s_L_size f fd) (gF : mg "_law_size" = some (.ref f)) (b : Binds K fd ["_law_item", "_law_signs", "_law_deep"] []) (B : Bl mg) (n_bool : mg "bool" = none) (c_L_forms : Cal P w K mg base 1 "_law_forms" spForms) : ∀ n, Cal P w K mg base (n + 2) "_law_size" (spSize K n)
  | 0 => cal_never F gF b fun vs H Q E => by rintro ⟨_, _, k, _, _, hk, _⟩; omega
  | n + 1 => by
    have c_L_size := ok_size F gF b B n_bool c_L_forms n
    refine ⟨f, fd, _, F.ok sc_L_size (fun vs H Q E h => ?_) (fun cdv A outer s H vs Q E hr h => ?_), gF, F.kp, b⟩
    · obtain ⟨_, _, _, _, rfl, _⟩ := h
      rfl
    · obtain ⟨v, many, k, d, rfl, hk, hk8, hd, q⟩ := h
      refine ⟨_, (pss_cons (ps_if (PW.pt (pw_or (pt_cmpR op_gt (pv 2) pe_int (nomark _)) (pw_or (pt_not (pt_val (pe_callB call_isi (by rfl) B.isinstance (by decide +kernel) (pa_cons (pv 0) (pa_cons (pe_bltn (v := .ty "tuple") (by rfl) B.tuple (by decide +kernel) rfl) pa_nil))))) (pw_or (pt_cmpR (op_eqE hr.units) (pv 0) (pe_tup pa_nil) (nomark _)) (pw_or1 (pt_not (pt_val (pe_callB call_isi (by rfl) B.isinstance (by decide +kernel) (pa_cons (pe_ix ix_tup (pv 0) pe_int (fun _ _ => rfl)) (pa_cons (pe_bltn (v := .ty "str") (by rfl) B.str (by decide +kernel) rfl) pa_nil)))))))))) (pss_one (ps_ret pe_int)) pss_nil) (pss_cons (ps_set (i := 3) sc_L_size.nd rfl (.inl rfl) (pe_dget2 (hu_of hr) (pe_c0 c_L_forms hr (by omega) (by rfl)) (pe_ix ix_tup (pv 0) pe_int (fun _ _ => rfl)) pe_str ⟨by rfl, by rfl, by rfl, by rfl⟩)) (pss_cons (ps_if (PW.pt (pw_or (pt_cmpR op_eq (pv 3) pe_str (nomark _)) (pw_or1 (pt_cmpR op_ne (pe_callB call_len_seq (by rfl) B.len PySem.boot_len (pa_cons (pv 0) pa_nil)) (pe_op op_add pe_int (pe_callB call_len_str (by rfl) B.len PySem.boot_len (pa_cons (pv 3) pa_nil))) (nomark _))))) (pss_one (ps_ret pe_int)) pss_nil) (pss_cons (ps_par (i := 4) (j := 5) rfl sc_L_size.nd rfl rfl (by decide) rfl rfl (pa_cons (pe_disp (pps_cons pe_str (pe_tup (pa_cons (pe_un un_neg pe_int) (pa_cons pe_int pa_nil))) (pps_cons pe_str (pe_tup (pa_cons pe_int (pa_cons pe_int pa_nil))) (pps_cons pe_str (pe_tup (pa_cons pe_int (pa_cons (pe_op op_sub (pv 1) pe_int) pa_nil))) (pps_cons pe_str (pe_tup (pa_cons (pe_un un_neg pe_int) (pa_cons pe_int pa_nil))) (pps_cons pe_str (pe_tup (pa_cons pe_int (pa_cons pe_int pa_nil))) pps_nil))))) (by rfl) (by rfl) (by simp) (by decide)) (pa_cons pe_int pa_nil)) (by rfl)) (pss_cons (ps_for PassesOwn.never rfl (pi_zipST (by rfl) B.zip (pa_cons (pv 3) (pa_cons (pe_slice sl_tupA (pv 0) (po_some pe_int) po_none) pa_nil))) (pg_tup rfl (pgs_cons (pg_name (i := 6) sc_L_size.nd rfl (.inl rfl)) (pgs_cons (pg_name (i := 7) sc_L_size.nd rfl (.inl rfl)) pgs_nil))) (pss_one (ps_if (pt_cmpR op_eq (pv 6) pe_str (nomark _)) (pss_one (ps_set (i := 5) sc_L_size.nd rfl (.inl rfl) (pe_op op_add (pv 5) (pe_c c_L_size hr (by omega) (by rfl) (pa_cons (pv 7) (pa_cons (pv 1) (pa_cons (pe_op op_add (pv 2) pe_int) pa_nil))))))) (pss_one (ps_if (PW.pt (pw_or (pt_not (pt_val (pe_callB call_isi (by rfl) B.isinstance (by decide +kernel) (pa_cons (pv 7) (pa_cons (pe_bltn (v := .ty "int") (by rfl) B.int (by decide +kernel) rfl) pa_nil))))) (pw_or (pt_val (pe_callB call_isi (by rfl) B.isinstance (by decide +kernel) (pa_cons (pv 7) (pa_cons (pe_bltn (v := .ty "bool") (by rfl) n_bool (by decide +kernel) rfl) pa_nil)))) (pw_or1 (pt_not (pt_chain op_le op_le (pe_ix ix_tup (pe_dget (hu_of hr) (pv 4) (pv 6) (fun _ _ => rfl)) pe_int (fun _ _ => rfl)) (pv 7) (pe_ix ix_tup (pe_dget (hu_of hr) (pv 4) (pv 6) (fun _ _ => rfl)) pe_int (fun _ _ => rfl)))))))) (pss_one (ps_ret pe_int)) pss_nil))))) (pss_one (ps_ret (pv 5)))))))), ?_⟩
      cases k with
      | zero =>
        refine ⟨_, rfl, _, _, rfl, rfl, _, rfl, iteTT rfl ?_⟩
        exact q _ 99 (Same.refl _) ⟨fun h => by exact absurd h (by unfold cntE; omega), fun _ => by omega⟩
      | succ k =>
        refine ⟨_, rfl, _, _, rfl, rfl, _, rfl, iteFF (decide_eq_false (by omega)) ?_⟩
        have hno : wdV d = .non → hasD many d = false := hasD_non
        cases hkt : kT d with
        | false =>
          refine ⟨v, rfl, v, .ty "tuple", _, _, false, rfl, .ty _, Dq.tyx hd, kit_ty (by rw [kit_tup, hkt]), _, rfl, iteTT rfl ?_⟩
          exact q _ 99 (Same.refl _) (szOk_bad (hno (by cases d <;> first | rfl | cases hkt)))
        | true =>
          cases hd with
          | tup hp ha =>
            rename_i p xs0 ds0
            refine ⟨.ref p, rfl, .ref p, .ty "tuple", _, _, true, rfl, .ty _, tyx_tup hp, kit_ty (show kitB "tuple" "tuple" = some true by decide +kernel), true, rfl, iteFF rfl ?_⟩
            refine ⟨.ref p, rfl, (by show 0 ≤ sizeLine; decide), fun t0 nt0 => ⟨p, t0, xs0, rfl, rfl, same_sqt (same_new nt0) hp, SqT.of upd_same, _, rfl, ?_⟩⟩
            have s1 : Same H (upd H t0 (.tup [])) := same_new nt0
            generalize upd H t0 (.tup []) = H1 at s1 ⊢
            cases ha with
            | nil => exact iteTT rfl (q _ 99 s1 (szOk_bad rfl))
            | cons hx hds =>
              rename_i y xs d0 ds
              refine iteFF rfl ?_
              have hp1 := same_sqt s1 hp
              refine ⟨.ref p, rfl, p, _, 0, _, rfl, rfl, hp1, at_of (j := 0) rfl rfl, y, .ty "str", _, _, _, rfl, .ty _, Dq.tyx (dq_same s1 hx), kit_ty (kit_str d0), _, rfl, ?_⟩
              cases hx with
              | str x =>
                refine iteFF rfl ?_
                refine ⟨rfl, fun H2 pf s2 ef => ⟨pf, rfl, .inl ⟨_, .inl ef⟩, .ref p, rfl, p, _, 0, _, rfl, rfl, same_sqt s2 hp1, at_of (j := 0) rfl rfl, valV formsK (.inr x), .inl ⟨formsK, .inr x, .inl ef, rfl, rfl⟩, ?_⟩⟩
                have s12 := s1.trans s2
                cases hw : weOf x with
                | none =>
                  rw [forms_out hw]
                  refine ⟨.str "", rfl, rfl, _, rfl, iteTT (by decide) ?_⟩
                  refine q _ 99 s12 (szOk_bad ?_)
                  unfold hasD
                  simp only [hw]
                | some we =>
                  have ex := weOf_eq hw
                  subst ex
                  rw [forms_in we]
                  have hlx := dqall_len hds
                  have hfl := frm_len we
                  refine ⟨.str (frm we), rfl, rfl, _, rfl, iteFF (by cases we with | two o => cases o <;> decide | _ => decide) ?_⟩
                  refine ⟨.ref p, rfl, p, _, rfl, .inr (same_sqt s2 hp1), .str (frm we), rfl, frm we, rfl, (by rw [hfl]; exact Nat.le_trans (wsh_len we) (by decide)), _, _, rfl, rfl, rfl, _, rfl, ?_⟩
                  by_cases cl : ds.length = (wsh we).length
                  · refine iteFF (by rw [List.length_cons, hlx, hfl, cl]; simp; omega) ?_
                    refine fun de nde => ⟨_, rfl, (by show 2 ≤ sizeLine; decide), fun t1 nt1 => ⟨(by show 2 ≤ sizeLine; decide), fun t2 nt2 => ⟨.int many, rfl, _, _, rfl, rfl, (by show 2 ≤ sizeLine; decide), fun t3 nt3 => ⟨_, rfl, (by show 2 ≤ sizeLine; decide), fun t4 nt4 => ⟨(by show 2 ≤ sizeLine; decide), fun t5 nt5 => ?_⟩⟩⟩⟩⟩
                    have sU : Same (upd H2 de (.dK [])) (upd (upd (upd (upd (upd (upd H2 de (.dK [])) t1 (.tup [.int (-1000), .int 1000])) t2 (.tup [.int 0, .int 3])) t3 (.tup [.int 0, .int (many - 1)])) t4 (.tup [.int (-9), .int 9])) t5 (.tup [.int 1, .int 1000])) := ((((same_new nt1).trans (same_new nt2)).trans (same_new nt3)).trans (same_new nt4)).trans (same_new nt5)
                    have g5 : (upd (upd (upd (upd (upd (upd H2 de (.dK [])) t1 (.tup [.int (-1000), .int 1000])) t2 (.tup [.int 0, .int 3])) t3 (.tup [.int 0, .int (many - 1)])) t4 (.tup [.int (-9), .int 9])) t5 (.tup [.int 1, .int 1000])) t5 = some (.tup [.int 1, .int 1000]) := upd_same
                    have g4 : (upd (upd (upd (upd (upd (upd H2 de (.dK [])) t1 (.tup [.int (-1000), .int 1000])) t2 (.tup [.int 0, .int 3])) t3 (.tup [.int 0, .int (many - 1)])) t4 (.tup [.int (-9), .int 9])) t5 (.tup [.int 1, .int 1000])) t4 = some (.tup [.int (-9), .int 9]) := same_new nt5 _ _ upd_same
                    have g3 : (upd (upd (upd (upd (upd (upd H2 de (.dK [])) t1 (.tup [.int (-1000), .int 1000])) t2 (.tup [.int 0, .int 3])) t3 (.tup [.int 0, .int (many - 1)])) t4 (.tup [.int (-9), .int 9])) t5 (.tup [.int 1, .int 1000])) t3 = some (.tup [.int 0, .int (many - 1)]) := same_new nt5 _ _ (same_new nt4 _ _ upd_same)
                    have g2 : (upd (upd (upd (upd (upd (upd H2 de (.dK [])) t1 (.tup [.int (-1000), .int 1000])) t2 (.tup [.int 0, .int 3])) t3 (.tup [.int 0, .int (many - 1)])) t4 (.tup [.int (-9), .int 9])) t5 (.tup [.int 1, .int 1000])) t2 = some (.tup [.int 0, .int 3]) := same_new nt5 _ _ (same_new nt4 _ _ (same_new nt3 _ _ upd_same))
                    have g1 : (upd (upd (upd (upd (upd (upd H2 de (.dK [])) t1 (.tup [.int (-1000), .int 1000])) t2 (.tup [.int 0, .int 3])) t3 (.tup [.int 0, .int (many - 1)])) t4 (.tup [.int (-9), .int 9])) t5 (.tup [.int 1, .int 1000])) t1 = some (.tup [.int (-1000), .int 1000]) := same_new nt5 _ _ (same_new nt4 _ _ (same_new nt3 _ _ (same_new nt2 _ _ upd_same)))
                    have gd : (upd (upd (upd (upd (upd (upd H2 de (.dK [])) t1 (.tup [.int (-1000), .int 1000])) t2 (.tup [.int 0, .int 3])) t3 (.tup [.int 0, .int (many - 1)])) t4 (.tup [.int (-9), .int 9])) t5 (.tup [.int 1, .int 1000])) de = some (.dK []) := sU _ _ upd_same
                    have tne : ∀ {t : Addr} {l : List V}, (upd (upd (upd (upd (upd (upd H2 de (.dK [])) t1 (.tup [.int (-1000), .int 1000])) t2 (.tup [.int 0, .int 3])) t3 (.tup [.int 0, .int (many - 1)])) t4 (.tup [.int (-9), .int 9])) t5 (.tup [.int 1, .int 1000])) t = some (.tup l) → t ≠ de := fun h => ne_of h gd (by intro z; cases z)
                    have gD : (upd (upd (upd (upd (upd (upd (upd H2 de (.dK [])) t1 (.tup [.int (-1000), .int 1000])) t2 (.tup [.int 0, .int 3])) t3 (.tup [.int 0, .int (many - 1)])) t4 (.tup [.int (-9), .int 9])) t5 (.tup [.int 1, .int 1000])) de (.dK (mergeK [] (endsK t1 t2 t3 t4 t5)))) de = some (.dK (endsK t1 t2 t3 t4 t5)) := by rw [upd_same]; rfl
                    have h1 : (upd (upd (upd (upd (upd (upd (upd H2 de (.dK [])) t1 (.tup [.int (-1000), .int 1000])) t2 (.tup [.int 0, .int 3])) t3 (.tup [.int 0, .int (many - 1)])) t4 (.tup [.int (-9), .int 9])) t5 (.tup [.int 1, .int 1000])) de (.dK (mergeK [] (endsK t1 t2 t3 t4 t5)))) t1 = some (.tup [.int (-1000), .int 1000]) := (upd_ne (tne g1)).trans g1
                    have h2 : (upd (upd (upd (upd (upd (upd (upd H2 de (.dK [])) t1 (.tup [.int (-1000), .int 1000])) t2 (.tup [.int 0, .int 3])) t3 (.tup [.int 0, .int (many - 1)])) t4 (.tup [.int (-9), .int 9])) t5 (.tup [.int 1, .int 1000])) de (.dK (mergeK [] (endsK t1 t2 t3 t4 t5)))) t2 = some (.tup [.int 0, .int 3]) := (upd_ne (tne g2)).trans g2
                    have h3 : (upd (upd (upd (upd (upd (upd (upd H2 de (.dK [])) t1 (.tup [.int (-1000), .int 1000])) t2 (.tup [.int 0, .int 3])) t3 (.tup [.int 0, .int (many - 1)])) t4 (.tup [.int (-9), .int 9])) t5 (.tup [.int 1, .int 1000])) de (.dK (mergeK [] (endsK t1 t2 t3 t4 t5)))) t3 = some (.tup [.int 0, .int (many - 1)]) := (upd_ne (tne g3)).trans g3
                    have h4 : (upd (upd (upd (upd (upd (upd (upd H2 de (.dK [])) t1 (.tup [.int (-1000), .int 1000])) t2 (.tup [.int 0, .int 3])) t3 (.tup [.int 0, .int (many - 1)])) t4 (.tup [.int (-9), .int 9])) t5 (.tup [.int 1, .int 1000])) de (.dK (mergeK [] (endsK t1 t2 t3 t4 t5)))) t4 = some (.tup [.int (-9), .int 9]) := (upd_ne (tne g4)).trans g4
                    have h5 : (upd (upd (upd (upd (upd (upd (upd H2 de (.dK [])) t1 (.tup [.int (-1000), .int 1000])) t2 (.tup [.int 0, .int 3])) t3 (.tup [.int 0, .int (many - 1)])) t4 (.tup [.int (-9), .int 9])) t5 (.tup [.int 1, .int 1000])) de (.dK (mergeK [] (endsK t1 t2 t3 t4 t5)))) t5 = some (.tup [.int 1, .int 1000]) := (upd_ne (tne g5)).trans g5
                    have s3 : Same H2 (upd (upd (upd (upd (upd (upd (upd H2 de (.dK [])) t1 (.tup [.int (-1000), .int 1000])) t2 (.tup [.int 0, .int 3])) t3 (.tup [.int 0, .int (many - 1)])) t4 (.tup [.int (-9), .int 9])) t5 (.tup [.int 1, .int 1000])) de (.dK (mergeK [] (endsK t1 t2 t3 t4 t5)))) := fun b o e => by
                      rw [upd_ne (ne_of_none e nde)]
                      exact sU _ _ (same_new nde _ _ e)
                    refine ⟨gd, endsK t1 t2 t3 t4 t5, rfl, (by show 5 ≤ 15; decide), _, _, rfl, ?_⟩
                    generalize upd (upd (upd (upd (upd (upd (upd H2 de (.dK [])) t1 (.tup [.int (-1000), .int 1000])) t2 (.tup [.int 0, .int 3])) t3 (.tup [.int 0, .int (many - 1)])) t4 (.tup [.int (-9), .int 9])) t5 (.tup [.int 1, .int 1000])) de (.dK (mergeK [] (endsK t1 t2 t3 t4 t5))) = H3 at gD h1 h2 h3 h4 h5 s3 ⊢
                    clear g1 g2 g3 g4 g5 gd tne sU
                    have hp3 := same_sqt (s2.trans s3) hp1
                    refine ⟨.str (frm we), rfl, .ref p, rfl, 1, rfl, ?_⟩
                    dsimp only [tNoPart]
                    refine slA hp3 fun H4 c4 s4 hc4 => ?_
                    rw [cutT1] at hc4
                    have s14 := (s12.trans s3).trans s4
                    have gD4 := s4 _ _ gD
                    have ed : ∀ kd : Kd, kd ≠ .part → ∃ t, valV (endsK t1 t2 t3 t4 t5) (.inr (ltr kd)) = some (.ref t) ∧ SqT K H4 t [.int (bnL many kd).1, .int (bnL many kd).2] := fun kd hkd => by
                      cases kd with
                      | part => exact absurd rfl hkd
                      | sign => exact ⟨t3, rfl, SqT.of (s4 _ _ h3)⟩
                      | figure => exact ⟨t1, rfl, SqT.of (s4 _ _ h1)⟩
                      | place => exact ⟨t2, rfl, SqT.of (s4 _ _ h2)⟩
                      | factor => exact ⟨t4, rfl, SqT.of (s4 _ _ h4)⟩
                      | line => exact ⟨t5, rfl, SqT.of (s4 _ _ h5)⟩
                    have hds4 := dqall_same s14 hds
                    refine ⟨frm we, c4, xs, rfl, hc4, ?_⟩
                    refine for_it (D := { nx := tRet (tVar 5) { nx := fun _ H' => Q .non H', rt := Q }, rt := Q }) (walk_ST (ws := xs) (n := (wsh we).length) hfl (by omega)) (fun i σ H' => ∃ (z : Int) (y6 y7 : Option V), σ = [some (.ref p), some (.int many), some (.int (9 - ((k + 1 : Nat) : Int))), some (.str (frm we)), some (.ref de), some (.int z), y6, y7] ∧ Same H4 H' ∧ fitsD many ((wsh we).take i) (ds.take i) = true ∧ SzOk (addE 1 ((partsD ((wsh we).take i) (ds.take i)).map (cntE many k))) z ∧ 1 ≤ z) ⟨1, none, none, rfl, Same.refl _, rfl, ⟨fun _ => rfl, fun h => by cases h⟩, by decide⟩ (fun i σ H' _ h => by obtain ⟨_, _, _, _, sm, _⟩ := h; exact same_sqt sm hc4) ?_ ?_
                    · rintro i x0 σ H5 H5' hi ⟨z, y6, y7, rfl, s5, hf, hz, hz1⟩ ⟨T, u, v, rfl, nT, rfl, hu, hv⟩
                      obtain ⟨kd, hkd⟩ : ∃ kd, (wsh we)[i]? = some kd := ⟨_, List.getElem?_eq_getElem hi⟩
                      have hu : sgV (frm we) i = some u := hu
                      have hv : xs[i]? = some v := hv
                      rw [frm_at we i kd hkd] at hu
                      cases hu
                      obtain ⟨dd, hdd, hdp⟩ := dqall_get hds4 hv
                      have s6 := s5.trans (same_new (o := .tup [.str (ltr kd), v]) nT)
                      have hdp6 := dq_same s6 hdp
                      refine ⟨T, _, rfl, SqT.of upd_same, rfl, _, _, rfl, _, _, rfl, rfl, ?_⟩
                      generalize upd H5 T (.tup [.str (ltr kd), v]) = H6 at s6 hdp6 ⊢
                      have hpart := partsD_snoc hkd hdd
                      have hfit : fitsD many ((wsh we).take (i + 1)) (ds.take (i + 1)) = fitD many kd dd := by
                        rw [fitsD_snoc hkd hdd, hf, Bool.true_and]
                      refine ⟨.str (ltr kd), rfl, rfl, _, rfl, ?_⟩
                      by_cases hp' : kd = .part
                      · subst hp'
                        refine iteTT (by decide) ⟨.int z, rfl, v, rfl, .int many, rfl, .int (9 - ((k + 1 : Nat) : Int)), rfl, _, _, rfl, rfl, ?_⟩
                        refine ⟨v, many, k, dd, (by show [v, V.int many, V.int (9 - ((k + 1 : Nat) : Int) + 1)] = [v, V.int many, V.int (9 - (k : Int))]; rw [show 9 - ((k + 1 : Nat) : Int) + 1 = 9 - (k : Int) by omega]), by omega, by omega, hdp6, fun H7 z2 s7 hz2 => ⟨_, _, rfl, rfl, ?_⟩⟩
                        rw [if_pos rfl] at hpart
                        refine ⟨z + z2, _, _, rfl, s6.trans s7, by rw [hfit]; rfl, ?_, ?_⟩
                        · rw [hpart, List.map_append]
                          exact szOk_add hz hz2 hz1
                        · rcases Nat.eq_zero_or_pos (cntE many k dd) with h0 | h0
                          · have := hz2.2 h0
                            omega
                          · have := hz2.1 h0
                            omega
                      · rw [if_neg hp', List.append_nil] at hpart
                        obtain ⟨tb, htb, hst⟩ := ed kd hp'
                        have bad : fitD many kd dd = false → Q (.int 99) H6 := fun hb => by
                          refine q _ 99 (s14.trans s6) (szOk_bad ?_)
                          unfold hasD
                          simp only [weOf_wen]
                          cases hfull : fitsD many (wsh we) ds with
                          | false => rfl
                          | true =>
                            have := fitsD_take (i + 1) hfull
                            rw [hfit, hb] at this
                            cases this
                        have good : fitD many kd dd = true → ∃ (z' : Int) (y6 y7 : Option V), ([some (.ref p), some (.int many), some (.int (9 - ((k + 1 : Nat) : Int))), some (.str (frm we)), some (.ref de), some (.int z), some (.str (ltr kd)), some v] : L2.St) = [some (.ref p), some (.int many), some (.int (9 - ((k + 1 : Nat) : Int))), some (.str (frm we)), some (.ref de), some (.int z'), y6, y7] ∧ Same H4 H6 ∧ fitsD many ((wsh we).take (i + 1)) (ds.take (i + 1)) = true ∧ SzOk (addE 1 ((partsD ((wsh we).take (i + 1)) (ds.take (i + 1))).map (cntE many k))) z' ∧ 1 ≤ z' := fun hb => by
                          refine ⟨z, _, _, rfl, s6, by rw [hfit]; exact hb, ?_, hz1⟩
                          rw [hpart]
                          exact hz
                        refine iteFF (by cases kd <;> first | exact absurd rfl hp' | decide) ?_
                        refine ⟨v, rfl, v, .ty "int", _, _, _, rfl, .ty _, Dq.tyx hdp6, kit_ty (kit_int dd), _, rfl, ?_⟩
                        rw [fitD_bnL hp'] at bad good
                        cases hdp with
                        | int x =>
                          refine iteFF rfl ⟨.int x, rfl, .int x, .ty "bool", _, _, _, rfl, .ty _, Dq.tyx hdp6, kit_ty (kit_bool _), _, rfl, iteFF rfl ?_⟩
                          have gD6 := s6 _ _ gD4
                          have hst6 := same_sqt s6 hst
                          refine ⟨.ref de, rfl, .str (ltr kd), rfl, de, _, rfl, .inl ⟨_, .inr (ltr kd), .inl gD6, rfl, htb.symm⟩, tb, _, 0, _, rfl, rfl, hst6, at_of (j := 0) rfl rfl, .int x, rfl, _, _, rfl, rfl, _, rfl, ?_⟩
                          by_cases c1 : (bnL many kd).1 ≤ x
                          · refine iteTT (decide_eq_true c1) ⟨.ref de, rfl, .str (ltr kd), rfl, de, _, rfl, .inl ⟨_, .inr (ltr kd), .inl gD6, rfl, htb.symm⟩, tb, _, 1, _, rfl, rfl, hst6, at_of (j := 1) rfl rfl, _, _, rfl, rfl, _, rfl, ?_⟩
                            by_cases c2 : x ≤ (bnL many kd).2
                            · exact iteFF (by rw [decide_eq_true c2]; rfl) (good (inD_of c1 c2))
                            · refine iteTT (by rw [decide_eq_false c2]; rfl) (bad ?_)
                              show (decide _ && decide _) = false
                              rw [decide_eq_false c2, Bool.and_false]
                          · refine iteFF (decide_eq_false c1) ⟨_, rfl, iteTT rfl (bad ?_)⟩
                            show (decide _ && decide _) = false
                            rw [decide_eq_false c1, Bool.false_and]
                        | bl bb => exact iteFF rfl ⟨.bl bb, rfl, .bl bb, .ty "bool", _, _, _, rfl, .ty _, Dq.tyx hdp6, kit_ty (kit_bool _), _, rfl, iteTT rfl (bad rfl)⟩
                        | _ => exact iteTT rfl (bad rfl)
                    · rintro σ H5 ⟨z, y6, y7, rfl, s5, hf, hz, hz1⟩
                      rw [List.take_length, List.take_of_length_le (show ds.length ≤ (wsh we).length by omega)] at hf hz
                      refine ⟨_, rfl, q _ z (s14.trans s5) ?_⟩
                      rw [cntE_eq, if_pos hf]
                      exact hz
                  · refine iteTT (by rw [List.length_cons, hlx, hfl]; simp; omega) ?_
                    refine q _ 99 s12 (szOk_bad ?_)
                    unfold hasD
                    simp only [weOf_wen]
                    exact fitsD_ne cl
              | _ => exact iteTT rfl (q _ 99 s1 (szOk_bad rfl))
          | _ => cases hkt
theorem ok_lisx {f : Addr} {fd : FuncData} (F : Fun K "_law_is" "_law_is" s_L_is f fd) (gF : mg "_law_is" = some (.ref f)) (b : Binds K fd ["_law_item", "_law_signs"] []) (c_L_size : Cal P w K mg base 11 "_law_size" (spSize K 9)) : Cal P w K mg base 12 "_law_is" (spLIs K) := by
  refine ⟨f, fd, _, F.ok sc_L_is (fun vs H Q E h => ?_) (fun cdv A outer s H vs Q E hr h => ?_), gF, F.kp, b⟩
  · obtain ⟨_, _, _, rfl, _⟩ := h
    rfl
  · obtain ⟨v, many, d, rfl, hd, q⟩ := h
    refine ⟨_, (pss_one (ps_ret (pe_cmpR op_le (pe_c c_L_size hr (by omega) (by rfl) (pa_cons (pv 0) (pa_cons (pv 1) (pa_cons pe_int pa_nil)))) pe_int (nomark _)))), ?_⟩
    refine ⟨v, rfl, .int many, rfl, v, many, 8, d, rfl, by decide, by decide, hd, fun H1 z s1 hz => ⟨_, _, rfl, rfl, ?_⟩⟩
    have q := q H1 s1
    have e : isEx many d = decide (z ≤ 40) := by
      unfold isEx
      rcases Nat.eq_zero_or_pos (cntE many 8 d) with c | c
      · have := hz.2 c
        rw [c, decide_eq_false (show ¬ 1 ≤ 0 by omega), Bool.false_and, decide_eq_false (show ¬ z ≤ 40 by omega)]
      · have := hz.1 c
        rw [decide_eq_true (show 1 ≤ cntE many 8 d by omega), Bool.true_and, decide_eq_decide]
        omega
    rw [e] at q
    exact q
end
end NG

namespace NG
open PySem PySem.Spec PyProof.Rows L2
def spOdd (K : PySem.W.Frag) : Sp := fun vs H Q _ => ∃ (a : Addr) (v : V) (d : PyData) (B W D n : Nat) (L : List Addr), vs = [.ref a, v] ∧ Dq K (hideL (a :: L) H) v d ∧ Tm B W D d ∧ 2000 ≤ B ∧ B < 10 ^ 39 ∧ d.weight ≤ 20000 ∧ Tr a L n H ∧ n ≤ 999998000 ∧
  ∀ H' v' d', But a H H' → HandAt H' a (n + 1) → Dq K (hideL (a :: L) H') v' d' → Tm (B + 1) (2 * W + 400) (D + 2) d' → Q v' H'
theorem len_weight : ∀ ds : List PyData, ds.length ≤ PyData.weightAll ds
  | [] => Nat.le_refl _
  | d :: ds => by
    have := len_weight ds
    show ds.length + 1 ≤ d.weight + 1 + PyData.weightAll ds
    omega
def WL : List V := [.str "fig", .str "reg", .str "share", .str "sum", .str "less", .str "times", .str "by", .str "least", .str "most", .str "when", .str "where", .str "sums", .str "", .str "Fig"]
def SL (e0 t0 k0 t1 t2 : Addr) : List V := [.bl true, .bl false, .non, .ref e0, .ref t0, .ref k0, .int (-1), .int 0, .int 2, .int 3, .int 4, .int 9, .int 10, .int (-10), .int 1000, .int 1001, .int (-1001), .str "0", .ref t1, .ref t2]
section
variable {P : Program} {w : World} {K : PySem.W.Frag} {mg : Str → Option Value} {base : Heap}
theorem ok_odd {f : Addr} {fd : FuncData} (F : Fun K "_law_odd" "_law_odd" s_L_odd f fd) (gF : mg "_law_odd" = some (.ref f)) (b : Binds K fd ["_law_hand_here", "_law_part"] []) (B : Bl mg) (c_L_of : Cal P w K mg base 2 "_law_of" (spOf K)) : Cal P w K mg base 3 "_law_odd" (spOdd K) := by
  refine ⟨f, fd, _, F.ok sc_L_odd (fun vs H Q E h => ?_) (fun cdv A outer s H vs Q E hr h => ?_), gF, F.kp, b⟩
  · obtain ⟨_, _, _, _, _, _, _, _, rfl, _⟩ := h
    rfl
  · obtain ⟨a, v, d, Bd, W, D, n, L, rfl, hd, ht, hB1, hB2, hw, tr, hn, q⟩ := h
    refine ⟨_, (pss_cons (ps_set (i := 2) sc_L_odd.nd rfl (.inl rfl) (pe_lst (pa_cons pe_str (pa_cons pe_str (pa_cons pe_str (pa_cons pe_str (pa_cons pe_str (pa_cons pe_str (pa_cons pe_str (pa_cons pe_str (pa_cons pe_str (pa_cons pe_str (pa_cons pe_str (pa_cons pe_str (pa_cons pe_str (pa_cons pe_str pa_nil)))))))))))))))) (pss_cons (ps_set (i := 3) sc_L_odd.nd rfl (.inl rfl) (pe_lst (pa_cons pe_bl (pa_cons pe_bl (pa_cons pe_non (pa_cons (pe_lst pa_nil) (pa_cons (pe_tup pa_nil) (pa_cons pe_dnewK (pa_cons (pe_un un_neg pe_int) (pa_cons pe_int (pa_cons pe_int (pa_cons pe_int (pa_cons pe_int (pa_cons pe_int (pa_cons pe_int (pa_cons (pe_un un_neg pe_int) (pa_cons pe_int (pa_cons pe_int (pa_cons (pe_un un_neg pe_int) (pa_cons pe_str (pa_cons (pe_tup (pa_cons pe_str (pa_cons pe_int pa_nil))) (pa_cons (pe_tup (pa_cons pe_str (pa_cons pe_int pa_nil))) pa_nil)))))))))))))))))))))) (pss_cons (ps_if (pt_val (pe_callB call_isi (by rfl) B.isinstance (by decide +kernel) (pa_cons (pv 1) (pa_cons (pe_bltn (v := .ty "str") (by rfl) B.str (by decide +kernel) rfl) pa_nil)))) (pss_one (ps_ret (pe_c c_L_of hr (by omega) (by rfl) (pa_cons (pv 0) (pa_cons (pe_op op_cat (pv 2) (pe_lst (pa_cons pe_non (pa_cons pe_int (pa_cons (pe_tup (pa_cons pe_str pa_nil)) (pa_cons (pe_lst (pa_cons pe_str pa_nil)) pa_nil)))))) pa_nil))))) pss_nil) (pss_cons (ps_if (pt_val (pe_callB call_isi (by rfl) B.isinstance (by decide +kernel) (pa_cons (pv 1) (pa_cons (pe_bltn (v := .ty "int") (by rfl) B.int (by decide +kernel) rfl) pa_nil)))) (pss_one (ps_ret (pe_c c_L_of hr (by omega) (by rfl) (pa_cons (pv 0) (pa_cons (pe_op op_cat (pv 3) (pe_lst (pa_cons (pe_op op_addIB (pv 1) pe_int) (pa_cons (pe_op op_subIB (pv 1) pe_int) (pa_cons (pe_callTy call_strIB (by rfl) B.str (by decide +kernel) (pa_cons (pv 1) pa_nil)) (pa_cons (pe_tup (pa_cons (pv 1) pa_nil)) pa_nil)))))) pa_nil))))) pss_nil) (pss_cons (ps_if (pt_not (pt_val (pe_callB call_isi (by rfl) B.isinstance (by decide +kernel) (pa_cons (pv 1) (pa_cons (pe_bltn (v := .ty "tuple") (by rfl) B.tuple (by decide +kernel) rfl) pa_nil))))) (pss_one (ps_ret (pe_c c_L_of hr (by omega) (by rfl) (pa_cons (pv 0) (pa_cons (pe_op op_cat (pv 3) (pe_lst (pa_cons (pe_tup (pa_cons (pv 1) pa_nil)) (pa_cons (pe_lst (pa_cons (pv 1) pa_nil)) pa_nil)))) pa_nil))))) pss_nil) (pss_one (ps_ret (pe_c c_L_of hr (by omega) (by rfl) (pa_cons (pv 0) (pa_cons (pe_op op_cat (pv 3) (pe_lst (pa_cons (pe_callTy call_list_of (by rfl) B.list (by decide +kernel) (pa_cons (pv 1) pa_nil)) (pa_cons (pe_tup (pa_cons (pv 1) pa_nil)) (pa_cons (pe_revT (pv 1) (pe_un un_neg pe_int)) (pa_cons (pe_op op_catA (pv 1) (pe_slice sl_tupA (pv 1) (po_some pe_int) po_none)) (pa_cons (pe_tup (pa_cons pe_str (pa_cons (pv 1) (pa_cons (pv 1) pa_nil)))) pa_nil))))))) pa_nil)))))))))), ?_⟩
    refine ⟨(by show 14 ≤ sizeLine; decide), fun l1 nl1 => ?_⟩
    refine ⟨(by show 0 ≤ sizeLine; decide), fun e0 ne0 => ⟨(by show 0 ≤ sizeLine; decide), fun t0 nt0 k0 nk0 => ⟨_, rfl, _, rfl, _, rfl, (by show 2 ≤ sizeLine; decide), fun t1 nt1 => ⟨(by show 2 ≤ sizeLine; decide), fun t2 nt2 => ⟨(by show 20 ≤ sizeLine; decide), fun l2 nl2 => ?_⟩⟩⟩⟩⟩
    have s2 : Same H (upd (upd (upd (upd (upd (upd (upd H l1 (.lst WL)) e0 (.lst [])) t0 (.tup [])) k0 (.dK [])) t1 (.tup [.str "fig", .int 1])) t2 (.tup [.str "share", .int 2])) l2 (.lst (SL e0 t0 k0 t1 t2))) := ((((((same_new nl1).trans (same_new ne0)).trans (same_new nt0)).trans (same_new nk0)).trans (same_new nt1)).trans (same_new nt2)).trans (same_new nl2)
    have eW : (upd (upd (upd (upd (upd (upd (upd H l1 (.lst WL)) e0 (.lst [])) t0 (.tup [])) k0 (.dK [])) t1 (.tup [.str "fig", .int 1])) t2 (.tup [.str "share", .int 2])) l2 (.lst (SL e0 t0 k0 t1 t2))) l1 = some (.lst WL) := same_new nl2 _ _ (same_new nt2 _ _ (same_new nt1 _ _ (same_new nk0 _ _ (same_new nt0 _ _ (same_new ne0 _ _ upd_same)))))
    have ee : (upd (upd (upd (upd (upd (upd (upd H l1 (.lst WL)) e0 (.lst [])) t0 (.tup [])) k0 (.dK [])) t1 (.tup [.str "fig", .int 1])) t2 (.tup [.str "share", .int 2])) l2 (.lst (SL e0 t0 k0 t1 t2))) e0 = some (.lst []) := same_new nl2 _ _ (same_new nt2 _ _ (same_new nt1 _ _ (same_new nk0 _ _ (same_new nt0 _ _ upd_same))))
    have et : (upd (upd (upd (upd (upd (upd (upd H l1 (.lst WL)) e0 (.lst [])) t0 (.tup [])) k0 (.dK [])) t1 (.tup [.str "fig", .int 1])) t2 (.tup [.str "share", .int 2])) l2 (.lst (SL e0 t0 k0 t1 t2))) t0 = some (.tup []) := same_new nl2 _ _ (same_new nt2 _ _ (same_new nt1 _ _ (same_new nk0 _ _ upd_same)))
    have ek : (upd (upd (upd (upd (upd (upd (upd H l1 (.lst WL)) e0 (.lst [])) t0 (.tup [])) k0 (.dK [])) t1 (.tup [.str "fig", .int 1])) t2 (.tup [.str "share", .int 2])) l2 (.lst (SL e0 t0 k0 t1 t2))) k0 = some (.dK []) := same_new nl2 _ _ (same_new nt2 _ _ (same_new nt1 _ _ upd_same))
    have e1 : (upd (upd (upd (upd (upd (upd (upd H l1 (.lst WL)) e0 (.lst [])) t0 (.tup [])) k0 (.dK [])) t1 (.tup [.str "fig", .int 1])) t2 (.tup [.str "share", .int 2])) l2 (.lst (SL e0 t0 k0 t1 t2))) t1 = some (.tup [.str "fig", .int 1]) := same_new nl2 _ _ (same_new nt2 _ _ upd_same)
    have e2 : (upd (upd (upd (upd (upd (upd (upd H l1 (.lst WL)) e0 (.lst [])) t0 (.tup [])) k0 (.dK [])) t1 (.tup [.str "fig", .int 1])) t2 (.tup [.str "share", .int 2])) l2 (.lst (SL e0 t0 k0 t1 t2))) t2 = some (.tup [.str "share", .int 2]) := same_new nl2 _ _ upd_same
    have eS : (upd (upd (upd (upd (upd (upd (upd H l1 (.lst WL)) e0 (.lst [])) t0 (.tup [])) k0 (.dK [])) t1 (.tup [.str "fig", .int 1])) t2 (.tup [.str "share", .int 2])) l2 (.lst (SL e0 t0 k0 t1 t2))) l2 = some (.lst (SL e0 t0 k0 t1 t2)) := upd_same
    have hea : e0 ∉ a :: L := (tr.new (o := .lst WL) nl1).ne ne0
    have hka : k0 ∉ a :: L := (((tr.new (o := .lst WL) nl1).new (o := .lst []) ne0).new (o := .tup []) nt0).ne nk0
    change (upd (upd (upd (upd (upd (upd (upd H l1 (.lst WL)) e0 (.lst [])) t0 (.tup [])) k0 (.dK [])) t1 (.tup [.str "fig", .int 1])) t2 (.tup [.str "share", .int 2])) l2 (.lst (SL e0 t0 k0 t1 t2))) l1 = some (.lst WL) at eW
    show gName 3 (.ref l2) _ (upd (upd (upd (upd (upd (upd (upd H l1 (.lst WL)) e0 (.lst [])) t0 (.tup [])) k0 (.dK [])) t1 (.tup [.str "fig", .int 1])) t2 (.tup [.str "share", .int 2])) l2 (.lst (SL e0 t0 k0 t1 t2))) _
    generalize upd (upd (upd (upd (upd (upd (upd H l1 (.lst WL)) e0 (.lst [])) t0 (.tup [])) k0 (.dK [])) t1 (.tup [.str "fig", .int 1])) t2 (.tup [.str "share", .int 2])) l2 (.lst (SL e0 t0 k0 t1 t2)) = H2 at s2 eW ee et ek e1 e2 eS ⊢
    have hh := tr.hand
    have tr2 := tr.same s2
    have hh2 := hh.same s2
    have up : ∀ {Hc : Hp} {v' : V} {d' : PyData}, Same H2 Hc → Dq K (hideL (a :: L) H2) v' d' → Dq K (hideL (a :: L) Hc) v' d' := fun sc h => dq_same (hideL_same2 sc) h
    have hd2 : Dq K (hideL (a :: L) H2) v d := dq_same (hideL_same2 s2) hd
    have close : ∀ (Hc H6 : Hp) (v6 : V), Same H2 Hc → But a Hc H6 → HandAt H6 a (n + 1) → (∃ d', Dq K (hideL (a :: L) Hc) v6 d' ∧ Tm (Bd + 1) (2 * W + 400) (D + 2) d') → Q v6 H6 := fun Hc H6 v6 sc b6 hh6 ⟨d', g1, g2⟩ =>
      q H6 v6 d' ((But.of (s2.trans sc)).trans b6) hh6 (dq_same (hideL_but b6) g1) g2
    have gI : ∀ {z : Int} {Hc : Hp}, z.natAbs ≤ Bd + 1 → ∃ d', Dq K (hideL (a :: L) Hc) (.int z) d' ∧ Tm (Bd + 1) (2 * W + 400) (D + 2) d' := fun h => ⟨_, .int _, (Tm.int h (by omega)).mono (Nat.le_refl _) (by omega) (by omega)⟩
    have gS : ∀ (Hc : Hp), Same H2 Hc → ∀ v' ∈ SL e0 t0 k0 t1 t2, ∃ d', Dq K (hideL (a :: L) Hc) v' d' ∧ Tm (Bd + 1) (2 * W + 400) (D + 2) d' := by
      intro Hc sc v' hv
      simp only [SL, List.mem_cons, List.not_mem_nil, or_false] at hv
      rcases hv with rfl | rfl | rfl | rfl | rfl | rfl | rfl | rfl | rfl | rfl | rfl | rfl | rfl | rfl | rfl | rfl | rfl | rfl | rfl | rfl
      · exact ⟨_, .bl _, (Tm.bl _).mono (Nat.le_refl _) (by omega) (by omega)⟩
      · exact ⟨_, .bl _, (Tm.bl _).mono (Nat.le_refl _) (by omega) (by omega)⟩
      · exact ⟨_, .non, Tm.non.mono (Nat.le_refl _) (by omega) (by omega)⟩
      · exact ⟨_, .lst (SqL.of (hideL_at hea (sc _ _ ee))) .nil, (Tms.nil (W := 0) (D := 0)).lst.mono (Nat.le_refl _) (by omega) (by omega)⟩
      · exact ⟨_, .tup (hideL_sqt (tr2.same sc) (SqT.of (sc _ _ et))) .nil, (Tms.nil (W := 0) (D := 0)).tup.mono (Nat.le_refl _) (by omega) (by omega)⟩
      · exact ⟨_, .dic (hideL_at hka (sc _ _ ek)), Tm.dic.mono (Nat.le_refl _) (by omega) (by omega)⟩
      · exact gI (by omega)
      · exact gI (by omega)
      · exact gI (by omega)
      · exact gI (by omega)
      · exact gI (by omega)
      · exact gI (by omega)
      · exact gI (by omega)
      · exact gI (by omega)
      · exact gI (by omega)
      · exact gI (by omega)
      · exact gI (by omega)
      · exact ⟨_, .str _, (Tm.str (by decide) (by decide)).mono (Nat.le_refl _) (by omega) (by omega)⟩
      · exact ⟨_, .tup (hideL_sqt (tr2.same sc) (SqT.of (sc _ _ e1))) (.cons (.str _) (.cons (.int _) .nil)), (Tms.cons ((Tm.str (by decide) (by decide)).mono (D' := 0) (Nat.le_refl _) (Nat.le_refl _) (Nat.le_refl _)) (Tms.cons (Tm.int (i := 1) (by omega) (by omega)) (.nil (W := 0)))).tup.mono (Nat.le_refl _) (by omega) (by omega)⟩
      · exact ⟨_, .tup (hideL_sqt (tr2.same sc) (SqT.of (sc _ _ e2))) (.cons (.str _) (.cons (.int _) .nil)), (Tms.cons ((Tm.str (by decide) (by decide)).mono (D' := 0) (Nat.le_refl _) (Nat.le_refl _) (Nat.le_refl _)) (Tms.cons (Tm.int (i := 2) (by omega) (by omega)) (.nil (W := 0)))).tup.mono (Nat.le_refl _) (by omega) (by omega)⟩
    have hdv : Dq K H2 v d := dq_same hideL_same hd2
    have wl : WL.length = 14 := rfl
    have sl : (SL e0 t0 k0 t1 t2).length = 20 := rfl
    have one : ∀ {x : Nat}, x ≤ 1000 → x ≤ sizeLine := fun h => Nat.le_of_lt (small1000 h)
    have ht' : Tm (Bd + 1) W D d := ht.mono (by omega) (Nat.le_refl _) (Nat.le_refl _)
    -- the last step: a list put behind one of the two, an item of it
    have pick : ∀ (H3 : Hp) (base l3 : Addr) (L1 L2 : List V), Same H2 H3 → H3 base = some (.lst L1) → H3 l3 = some (.lst L2) → 0 < L2.length → L1.length + L2.length ≤ 40 → (∀ Hc, Same H3 Hc → ∀ v' ∈ L1 ++ L2, ∃ d', Dq K (hideL (a :: L) Hc) v' d' ∧ Tm (Bd + 1) (2 * W + 400) (D + 2) d') → ∀ lc, H3 lc = none → spOf K [.ref a, .ref lc] (upd H3 lc (.lst (L1 ++ L2))) Q E0 := fun H3 base l3 L1 L2 s3 hb hl h0 h40 good lc nlc => by
      have s4 : Same H3 (upd H3 lc (.lst (L1 ++ L2))) := same_new nlc
      have hh3 := hh2.same s3
      refine ⟨a, lc, _, n, rfl, (hh3.ne nlc).symm, upd_same, by rw [List.length_append]; omega, by rw [List.length_append]; omega, hh3.same s4, by omega, fun H6 v6 b6 hh6 hv => ?_⟩
      exact close _ H6 v6 (s3.trans s4) b6 hh6 (good _ s4 v6 hv)
    refine ⟨v, rfl, v, .ty "str", _, _, _, rfl, .ty _, Dq.tyx hdv, kit_ty (kit_str d), _, rfl, ?_⟩
    cases hd2 with
    | str x =>
      refine iteTT rfl ?_
      refine ⟨.ref a, rfl, .ref l1, rfl, (by show 1 ≤ sizeLine; decide), fun p1 n1 => ⟨(by show 1 ≤ sizeLine; decide), fun p2 n2 => ⟨(by show 4 ≤ sizeLine; decide), fun l3 n3 => ?_⟩⟩⟩
      have s3 : Same H2 (upd (upd (upd H2 p1 (.tup [.str "fig"])) p2 (.lst [.str "fig"])) l3 (.lst [.non, .int 0, .ref p1, .ref p2])) := ((same_new n1).trans (same_new n2)).trans (same_new n3)
      have f1 : (upd (upd (upd H2 p1 (.tup [.str "fig"])) p2 (.lst [.str "fig"])) l3 (.lst [.non, .int 0, .ref p1, .ref p2])) p1 = some (.tup [.str "fig"]) := same_new n3 _ _ (same_new n2 _ _ upd_same)
      have f2 : (upd (upd (upd H2 p1 (.tup [.str "fig"])) p2 (.lst [.str "fig"])) l3 (.lst [.non, .int 0, .ref p1, .ref p2])) p2 = some (.lst [.str "fig"]) := same_new n3 _ _ upd_same
      have f3 : (upd (upd (upd H2 p1 (.tup [.str "fig"])) p2 (.lst [.str "fig"])) l3 (.lst [.non, .int 0, .ref p1, .ref p2])) l3 = some (.lst [.non, .int 0, .ref p1, .ref p2]) := upd_same
      have hp2a : p2 ∉ a :: L := (tr2.new (o := .tup [.str "fig"]) n1).ne n2
      generalize upd (upd (upd H2 p1 (.tup [.str "fig"])) p2 (.lst [.str "fig"])) l3 (.lst [.non, .int 0, .ref p1, .ref p2]) = H3 at s3 f1 f2 f3 ⊢
      refine ⟨l1, l3, _, _, rfl, rfl, s3 _ _ eW, f3, one (by show 14 + 4 ≤ 1000; decide), fun lc nlc => ?_⟩
      refine pick H3 l1 l3 _ _ s3 (s3 _ _ eW) f3 (by show 0 < 4; decide) (by show 14 + 4 ≤ 40; decide) (fun Hc sc v' hv => ?_) lc nlc
      simp only [WL, List.cons_append, List.nil_append, List.mem_cons, List.not_mem_nil, or_false] at hv
      have gstr : ∀ x : Str, (x.cps.toList.all fun c => decide (c < 16 ^ 8)) = true → x.cps.size ≤ 10 → ∃ d', Dq K (hideL (a :: L) Hc) (.str x) d' ∧ Tm (Bd + 1) (2 * W + 400) (D + 2) d' := fun x h1 h2 => ⟨_, .str _, (Tm.str h1 h2).mono (Nat.le_refl _) (by omega) (by omega)⟩
      rcases hv with rfl | rfl | rfl | rfl | rfl | rfl | rfl | rfl | rfl | rfl | rfl | rfl | rfl | rfl | rfl | rfl | rfl | rfl
      · exact gstr _ (by decide) (by decide)
      · exact gstr _ (by decide) (by decide)
      · exact gstr _ (by decide) (by decide)
      · exact gstr _ (by decide) (by decide)
      · exact gstr _ (by decide) (by decide)
      · exact gstr _ (by decide) (by decide)
      · exact gstr _ (by decide) (by decide)
      · exact gstr _ (by decide) (by decide)
      · exact gstr _ (by decide) (by decide)
      · exact gstr _ (by decide) (by decide)
      · exact gstr _ (by decide) (by decide)
      · exact gstr _ (by decide) (by decide)
      · exact gstr _ (by decide) (by decide)
      · exact gstr _ (by decide) (by decide)
      · exact ⟨_, .non, Tm.non.mono (Nat.le_refl _) (by omega) (by omega)⟩
      · exact gI (by omega)
      · exact ⟨_, .tup (hideL_sqt (tr2.same (s3.trans sc)) (SqT.of (sc _ _ f1))) (.cons (.str _) .nil), (Tms.cons ((Tm.str (by decide) (by decide)).mono (D' := 0) (Nat.le_refl _) (Nat.le_refl _) (Nat.le_refl _)) (.nil (W := 0))).tup.mono (Nat.le_refl _) (by omega) (by omega)⟩
      · exact ⟨_, .lst (SqL.of (hideL_at hp2a (sc _ _ f2))) (.cons (.str _) .nil), (Tms.cons ((Tm.str (by decide) (by decide)).mono (D' := 0) (Nat.le_refl _) (Nat.le_refl _) (Nat.le_refl _)) (.nil (W := 0))).lst.mono (Nat.le_refl _) (by omega) (by omega)⟩
    | int i =>
      have hib : i.natAbs ≤ Bd := of_decide_eq_true (by have := ht.tm; unfold tame at this; exact this)
      have hlog : i.natAbs.log2 < 1920 := Nat.lt_trans (PySem.Flt.log2_lt_of (k := 139) (by decide) (Nat.lt_of_le_of_lt hib (Nat.lt_trans hB2 (by decide)))) (by decide)
      refine iteFF rfl ⟨.int i, rfl, .int i, .ty "int", _, _, _, rfl, .ty _, Dq.tyx hdv, kit_ty (kit_int _), _, rfl, iteTT rfl ?_⟩
      refine ⟨.ref a, rfl, .ref l2, rfl, .int i, rfl, i, 1, rfl, .inl rfl, .int i, rfl, i, 1, rfl, .inl rfl, .int i, rfl, .int i, (Str.ofString (toString i)), rfl, (if_pos hlog), .int i, rfl, (by show 1 ≤ sizeLine; decide), fun p1 n1 => ⟨(by show 4 ≤ sizeLine; decide), fun l3 n3 => ?_⟩⟩
      have s3 : Same H2 (upd (upd H2 p1 (.tup [.int i])) l3 (.lst [.int (i + 1), .int (i - 1), .str (Str.ofString (toString i)), .ref p1])) := (same_new n1).trans (same_new n3)
      have f1 : (upd (upd H2 p1 (.tup [.int i])) l3 (.lst [.int (i + 1), .int (i - 1), .str (Str.ofString (toString i)), .ref p1])) p1 = some (.tup [.int i]) := same_new n3 _ _ upd_same
      have f3 : (upd (upd H2 p1 (.tup [.int i])) l3 (.lst [.int (i + 1), .int (i - 1), .str (Str.ofString (toString i)), .ref p1])) l3 = some (.lst [.int (i + 1), .int (i - 1), .str (Str.ofString (toString i)), .ref p1]) := upd_same
      show rCat (.ref l2) (.ref l3) (upd (upd H2 p1 (.tup [.int i])) l3 (.lst [.int (i + 1), .int (i - 1), .str (Str.ofString (toString i)), .ref p1])) _
      generalize upd (upd H2 p1 (.tup [.int i])) l3 (.lst [.int (i + 1), .int (i - 1), .str (Str.ofString (toString i)), .ref p1]) = H3 at s3 f1 f3 ⊢
      refine ⟨l2, l3, _, _, rfl, rfl, s3 _ _ eS, f3, one (by show 20 + 4 ≤ 1000; decide), fun lc nlc => ?_⟩
      refine pick H3 l2 l3 _ _ s3 (s3 _ _ eS) f3 (by show 0 < 4; decide) (by show 20 + 4 ≤ 40; decide) (fun Hc sc v' hv => ?_) lc nlc
      rcases List.mem_append.mp hv with hv | hv
      · exact gS Hc (s3.trans sc) v' hv
      · simp only [List.mem_cons, List.not_mem_nil, or_false] at hv
        rcases hv with rfl | rfl | rfl | rfl
        · exact gI (by omega)
        · exact gI (by omega)
        · exact ⟨_, .str _, (Tm.sint (by omega)).mono (Nat.le_refl _) (by omega) (by omega)⟩
        · exact ⟨_, .tup (hideL_sqt (tr2.same (s3.trans sc)) (SqT.of (sc _ _ f1))) (.cons (.int i) .nil), (Tms.cons ht' (.nil (W := 0))).tup.mono (Nat.le_refl _) (by omega) (by omega)⟩
    | bl bb =>
      have hib : (b2 bb).natAbs ≤ 1 := by cases bb <;> decide
      refine iteFF rfl ⟨.bl bb, rfl, .bl bb, .ty "int", _, _, _, rfl, .ty _, Dq.tyx hdv, kit_ty (kit_int _), _, rfl, iteTT rfl ?_⟩
      refine ⟨.ref a, rfl, .ref l2, rfl, .bl bb, rfl, (b2 bb), 1, rfl, .inr ⟨bb, rfl, rfl⟩, .bl bb, rfl, (b2 bb), 1, rfl, .inr ⟨bb, rfl, rfl⟩, .bl bb, rfl, .bl bb, (if bb = true then "True" else "False"), rfl, rfl, .bl bb, rfl, (by show 1 ≤ sizeLine; decide), fun p1 n1 => ⟨(by show 4 ≤ sizeLine; decide), fun l3 n3 => ?_⟩⟩
      have s3 : Same H2 (upd (upd H2 p1 (.tup [.bl bb])) l3 (.lst [.int ((b2 bb) + 1), .int ((b2 bb) - 1), .str (if bb = true then "True" else "False"), .ref p1])) := (same_new n1).trans (same_new n3)
      have f1 : (upd (upd H2 p1 (.tup [.bl bb])) l3 (.lst [.int ((b2 bb) + 1), .int ((b2 bb) - 1), .str (if bb = true then "True" else "False"), .ref p1])) p1 = some (.tup [.bl bb]) := same_new n3 _ _ upd_same
      have f3 : (upd (upd H2 p1 (.tup [.bl bb])) l3 (.lst [.int ((b2 bb) + 1), .int ((b2 bb) - 1), .str (if bb = true then "True" else "False"), .ref p1])) l3 = some (.lst [.int ((b2 bb) + 1), .int ((b2 bb) - 1), .str (if bb = true then "True" else "False"), .ref p1]) := upd_same
      show rCat (.ref l2) (.ref l3) (upd (upd H2 p1 (.tup [.bl bb])) l3 (.lst [.int ((b2 bb) + 1), .int ((b2 bb) - 1), .str (if bb = true then "True" else "False"), .ref p1])) _
      generalize upd (upd H2 p1 (.tup [.bl bb])) l3 (.lst [.int ((b2 bb) + 1), .int ((b2 bb) - 1), .str (if bb = true then "True" else "False"), .ref p1]) = H3 at s3 f1 f3 ⊢
      refine ⟨l2, l3, _, _, rfl, rfl, s3 _ _ eS, f3, one (by show 20 + 4 ≤ 1000; decide), fun lc nlc => ?_⟩
      refine pick H3 l2 l3 _ _ s3 (s3 _ _ eS) f3 (by show 0 < 4; decide) (by show 20 + 4 ≤ 40; decide) (fun Hc sc v' hv => ?_) lc nlc
      rcases List.mem_append.mp hv with hv | hv
      · exact gS Hc (s3.trans sc) v' hv
      · simp only [List.mem_cons, List.not_mem_nil, or_false] at hv
        rcases hv with rfl | rfl | rfl | rfl
        · exact gI (by omega)
        · exact gI (by omega)
        · exact ⟨_, .str _, (Tm.str (by cases bb <;> decide) (by cases bb <;> decide)).mono (Nat.le_refl _) (by omega) (by omega)⟩
        · exact ⟨_, .tup (hideL_sqt (tr2.same (s3.trans sc)) (SqT.of (sc _ _ f1))) (.cons (.bl bb) .nil), (Tms.cons ht' (.nil (W := 0))).tup.mono (Nat.le_refl _) (by omega) (by omega)⟩
    | non =>
      refine iteFF rfl ⟨.non, rfl, .non, .ty "int", _, _, _, rfl, .ty _, Dq.tyx hdv, kit_ty (kit_int _), _, rfl, iteFF rfl ?_⟩
      refine ⟨.non, rfl, .non, .ty "tuple", _, _, _, rfl, .ty _, Dq.tyx hdv, kit_ty (kit_tup _), _, rfl, iteTT rfl ?_⟩
      refine ⟨.ref a, rfl, .ref l2, rfl, .non, rfl, (by show 1 ≤ sizeLine; decide), fun p1 n1 => ⟨.non, rfl, (by show 1 ≤ sizeLine; decide), fun p2 n2 => ⟨(by show 2 ≤ sizeLine; decide), fun l3 n3 => ?_⟩⟩⟩
      have s3 : Same H2 (upd (upd (upd H2 p1 (.tup [.non])) p2 (.lst [.non])) l3 (.lst [.ref p1, .ref p2])) := ((same_new n1).trans (same_new n2)).trans (same_new n3)
      have f1 : (upd (upd (upd H2 p1 (.tup [.non])) p2 (.lst [.non])) l3 (.lst [.ref p1, .ref p2])) p1 = some (.tup [.non]) := same_new n3 _ _ (same_new n2 _ _ upd_same)
      have f2 : (upd (upd (upd H2 p1 (.tup [.non])) p2 (.lst [.non])) l3 (.lst [.ref p1, .ref p2])) p2 = some (.lst [.non]) := same_new n3 _ _ upd_same
      have f3 : (upd (upd (upd H2 p1 (.tup [.non])) p2 (.lst [.non])) l3 (.lst [.ref p1, .ref p2])) l3 = some (.lst [.ref p1, .ref p2]) := upd_same
      have hp2a : p2 ∉ a :: L := (tr2.new (o := .tup [.non]) n1).ne n2
      show rCat (.ref l2) (.ref l3) (upd (upd (upd H2 p1 (.tup [.non])) p2 (.lst [.non])) l3 (.lst [.ref p1, .ref p2])) _
      generalize upd (upd (upd H2 p1 (.tup [.non])) p2 (.lst [.non])) l3 (.lst [.ref p1, .ref p2]) = H3 at s3 f1 f2 f3 ⊢
      refine ⟨l2, l3, _, _, rfl, rfl, s3 _ _ eS, f3, one (by show 20 + 2 ≤ 1000; decide), fun lc nlc => ?_⟩
      refine pick H3 l2 l3 _ _ s3 (s3 _ _ eS) f3 (by show 0 < 2; decide) (by show 20 + 2 ≤ 40; decide) (fun Hc sc v' hv => ?_) lc nlc
      have hdc : Dq K (hideL (a :: L) Hc) V.non _ := up (s3.trans sc) .non
      rcases List.mem_append.mp hv with hv | hv
      · exact gS Hc (s3.trans sc) v' hv
      · simp only [List.mem_cons, List.not_mem_nil, or_false] at hv
        rcases hv with rfl | rfl
        · exact ⟨_, .tup (hideL_sqt (tr2.same (s3.trans sc)) (SqT.of (sc _ _ f1))) (.cons hdc .nil), (Tms.cons ht' (.nil (W := 0))).tup.mono (Nat.le_refl _) (by omega) (by omega)⟩
        · exact ⟨_, .lst (SqL.of (hideL_at hp2a (sc _ _ f2))) (.cons hdc .nil), (Tms.cons ht' (.nil (W := 0))).lst.mono (Nat.le_refl _) (by omega) (by omega)⟩
    | @lst p xs ds h1 h2 =>
      refine iteFF rfl ⟨.ref p, rfl, .ref p, .ty "int", _, _, _, rfl, .ty _, Dq.tyx hdv, kit_ty (kit_int _), _, rfl, iteFF rfl ?_⟩
      refine ⟨.ref p, rfl, .ref p, .ty "tuple", _, _, _, rfl, .ty _, Dq.tyx hdv, kit_ty (kit_tup _), _, rfl, iteTT rfl ?_⟩
      refine ⟨.ref a, rfl, .ref l2, rfl, .ref p, rfl, (by show 1 ≤ sizeLine; decide), fun p1 n1 => ⟨.ref p, rfl, (by show 1 ≤ sizeLine; decide), fun p2 n2 => ⟨(by show 2 ≤ sizeLine; decide), fun l3 n3 => ?_⟩⟩⟩
      have s3 : Same H2 (upd (upd (upd H2 p1 (.tup [.ref p])) p2 (.lst [.ref p])) l3 (.lst [.ref p1, .ref p2])) := ((same_new n1).trans (same_new n2)).trans (same_new n3)
      have f1 : (upd (upd (upd H2 p1 (.tup [.ref p])) p2 (.lst [.ref p])) l3 (.lst [.ref p1, .ref p2])) p1 = some (.tup [.ref p]) := same_new n3 _ _ (same_new n2 _ _ upd_same)
      have f2 : (upd (upd (upd H2 p1 (.tup [.ref p])) p2 (.lst [.ref p])) l3 (.lst [.ref p1, .ref p2])) p2 = some (.lst [.ref p]) := same_new n3 _ _ upd_same
      have f3 : (upd (upd (upd H2 p1 (.tup [.ref p])) p2 (.lst [.ref p])) l3 (.lst [.ref p1, .ref p2])) l3 = some (.lst [.ref p1, .ref p2]) := upd_same
      have hp2a : p2 ∉ a :: L := (tr2.new (o := .tup [.ref p]) n1).ne n2
      show rCat (.ref l2) (.ref l3) (upd (upd (upd H2 p1 (.tup [.ref p])) p2 (.lst [.ref p])) l3 (.lst [.ref p1, .ref p2])) _
      generalize upd (upd (upd H2 p1 (.tup [.ref p])) p2 (.lst [.ref p])) l3 (.lst [.ref p1, .ref p2]) = H3 at s3 f1 f2 f3 ⊢
      refine ⟨l2, l3, _, _, rfl, rfl, s3 _ _ eS, f3, one (by show 20 + 2 ≤ 1000; decide), fun lc nlc => ?_⟩
      refine pick H3 l2 l3 _ _ s3 (s3 _ _ eS) f3 (by show 0 < 2; decide) (by show 20 + 2 ≤ 40; decide) (fun Hc sc v' hv => ?_) lc nlc
      have hdc : Dq K (hideL (a :: L) Hc) (.ref p) _ := up (s3.trans sc) (.lst h1 h2)
      rcases List.mem_append.mp hv with hv | hv
      · exact gS Hc (s3.trans sc) v' hv
      · simp only [List.mem_cons, List.not_mem_nil, or_false] at hv
        rcases hv with rfl | rfl
        · exact ⟨_, .tup (hideL_sqt (tr2.same (s3.trans sc)) (SqT.of (sc _ _ f1))) (.cons hdc .nil), (Tms.cons ht' (.nil (W := 0))).tup.mono (Nat.le_refl _) (by omega) (by omega)⟩
        · exact ⟨_, .lst (SqL.of (hideL_at hp2a (sc _ _ f2))) (.cons hdc .nil), (Tms.cons ht' (.nil (W := 0))).lst.mono (Nat.le_refl _) (by omega) (by omega)⟩
    | @dic p h1 =>
      refine iteFF rfl ⟨.ref p, rfl, .ref p, .ty "int", _, _, _, rfl, .ty _, Dq.tyx hdv, kit_ty (kit_int _), _, rfl, iteFF rfl ?_⟩
      refine ⟨.ref p, rfl, .ref p, .ty "tuple", _, _, _, rfl, .ty _, Dq.tyx hdv, kit_ty (kit_tup _), _, rfl, iteTT rfl ?_⟩
      refine ⟨.ref a, rfl, .ref l2, rfl, .ref p, rfl, (by show 1 ≤ sizeLine; decide), fun p1 n1 => ⟨.ref p, rfl, (by show 1 ≤ sizeLine; decide), fun p2 n2 => ⟨(by show 2 ≤ sizeLine; decide), fun l3 n3 => ?_⟩⟩⟩
      have s3 : Same H2 (upd (upd (upd H2 p1 (.tup [.ref p])) p2 (.lst [.ref p])) l3 (.lst [.ref p1, .ref p2])) := ((same_new n1).trans (same_new n2)).trans (same_new n3)
      have f1 : (upd (upd (upd H2 p1 (.tup [.ref p])) p2 (.lst [.ref p])) l3 (.lst [.ref p1, .ref p2])) p1 = some (.tup [.ref p]) := same_new n3 _ _ (same_new n2 _ _ upd_same)
      have f2 : (upd (upd (upd H2 p1 (.tup [.ref p])) p2 (.lst [.ref p])) l3 (.lst [.ref p1, .ref p2])) p2 = some (.lst [.ref p]) := same_new n3 _ _ upd_same
      have f3 : (upd (upd (upd H2 p1 (.tup [.ref p])) p2 (.lst [.ref p])) l3 (.lst [.ref p1, .ref p2])) l3 = some (.lst [.ref p1, .ref p2]) := upd_same
      have hp2a : p2 ∉ a :: L := (tr2.new (o := .tup [.ref p]) n1).ne n2
      show rCat (.ref l2) (.ref l3) (upd (upd (upd H2 p1 (.tup [.ref p])) p2 (.lst [.ref p])) l3 (.lst [.ref p1, .ref p2])) _
      generalize upd (upd (upd H2 p1 (.tup [.ref p])) p2 (.lst [.ref p])) l3 (.lst [.ref p1, .ref p2]) = H3 at s3 f1 f2 f3 ⊢
      refine ⟨l2, l3, _, _, rfl, rfl, s3 _ _ eS, f3, one (by show 20 + 2 ≤ 1000; decide), fun lc nlc => ?_⟩
      refine pick H3 l2 l3 _ _ s3 (s3 _ _ eS) f3 (by show 0 < 2; decide) (by show 20 + 2 ≤ 40; decide) (fun Hc sc v' hv => ?_) lc nlc
      have hdc : Dq K (hideL (a :: L) Hc) (.ref p) _ := up (s3.trans sc) (.dic h1)
      rcases List.mem_append.mp hv with hv | hv
      · exact gS Hc (s3.trans sc) v' hv
      · simp only [List.mem_cons, List.not_mem_nil, or_false] at hv
        rcases hv with rfl | rfl
        · exact ⟨_, .tup (hideL_sqt (tr2.same (s3.trans sc)) (SqT.of (sc _ _ f1))) (.cons hdc .nil), (Tms.cons ht' (.nil (W := 0))).tup.mono (Nat.le_refl _) (by omega) (by omega)⟩
        · exact ⟨_, .lst (SqL.of (hideL_at hp2a (sc _ _ f2))) (.cons hdc .nil), (Tms.cons ht' (.nil (W := 0))).lst.mono (Nat.le_refl _) (by omega) (by omega)⟩
    | @tup p xs ds h1 h2 =>
      refine iteFF rfl ⟨.ref p, rfl, .ref p, .ty "int", _, _, _, rfl, .ty _, Dq.tyx hdv, kit_ty (kit_int _), _, rfl, iteFF rfl ?_⟩
      refine ⟨.ref p, rfl, .ref p, .ty "tuple", _, _, _, rfl, .ty _, Dq.tyx hdv, kit_ty (kit_tup _), _, rfl, iteFF rfl ?_⟩
      have hp2 : SqT K H2 p xs := same_sqt hideL_same h1
      have hlen := dqall_len h2
      have hl4 : ds.length ≤ 20000 := Nat.le_trans (len_weight ds) hw
      refine ⟨.ref a, rfl, .ref l2, rfl, .ref p, rfl, p, xs, rfl, .inr hp2, fun q1 m1 => ⟨.ref p, rfl, (by show 1 ≤ sizeLine; decide), fun q2 m2 => ?_⟩⟩
      have s3 : Same H2 (upd (upd H2 q1 (.lst xs)) q2 (.tup [.ref p])) := (same_new m1).trans (same_new m2)
      have f1 : (upd (upd H2 q1 (.lst xs)) q2 (.tup [.ref p])) q1 = some (.lst xs) := same_new m2 _ _ upd_same
      have f2 : (upd (upd H2 q1 (.lst xs)) q2 (.tup [.ref p])) q2 = some (.tup [.ref p]) := upd_same
      have hq1a := tr2.ne m1
      refine ⟨.ref p, rfl, _, rfl, rfl, p, xs, rfl, same_sqt s3 hp2, fun q3 m3 => ?_⟩
      generalize upd (upd H2 q1 (.lst xs)) q2 (.tup [.ref p]) = H3 at s3 f1 f2 m3 ⊢
      have s4 : Same H3 (upd H3 q3 (.tup xs.reverse)) := same_new m3
      have f3 : (upd H3 q3 (.tup xs.reverse)) q3 = some (.tup xs.reverse) := upd_same
      generalize upd H3 q3 (.tup xs.reverse) = H4 at s4 f3 ⊢
      have s24 := s3.trans s4
      refine ⟨.ref p, rfl, .ref p, rfl, 1, rfl, ?_⟩
      dsimp only [tNoPart]
      refine slA (same_sqt s24 hp2) fun H5 q4 s5 h5 => ?_
      rw [show (1 : Int) = ((1 : Nat) : Int) from rfl, cut_from] at h5
      refine catA (same_sqt (s24.trans s5) hp2) h5 (Nat.le_trans (by rw [List.length_drop]; omega) (show 40000 ≤ sizeLine by decide)) fun H6 q5 s6 h6 => ?_
      refine ⟨.ref p, rfl, .ref p, rfl, (by show 3 ≤ sizeLine; decide), fun q6 m6 => ⟨(by show 5 ≤ sizeLine; decide), fun l3 n3 => ?_⟩⟩
      have s7 : Same H6 (upd (upd H6 q6 (.tup [.str "sum", .ref p, .ref p])) l3 (.lst [.ref q1, .ref q2, .ref q3, .ref q5, .ref q6])) := (same_new m6).trans (same_new n3)
      have f6 : (upd (upd H6 q6 (.tup [.str "sum", .ref p, .ref p])) l3 (.lst [.ref q1, .ref q2, .ref q3, .ref q5, .ref q6])) q6 = some (.tup [.str "sum", .ref p, .ref p]) := same_new n3 _ _ upd_same
      have f7 : (upd (upd H6 q6 (.tup [.str "sum", .ref p, .ref p])) l3 (.lst [.ref q1, .ref q2, .ref q3, .ref q5, .ref q6])) l3 = some (.lst [.ref q1, .ref q2, .ref q3, .ref q5, .ref q6]) := upd_same
      show rCat (.ref l2) (.ref l3) (upd (upd H6 q6 (.tup [.str "sum", .ref p, .ref p])) l3 (.lst [.ref q1, .ref q2, .ref q3, .ref q5, .ref q6])) _
      generalize upd (upd H6 q6 (.tup [.str "sum", .ref p, .ref p])) l3 (.lst [.ref q1, .ref q2, .ref q3, .ref q5, .ref q6]) = H7 at s7 f6 f7 ⊢
      have s46 := s5.trans s6
      have s27 := (s24.trans s46).trans s7
      refine ⟨l2, l3, _, _, rfl, rfl, s27 _ _ eS, f7, one (by show 20 + 5 ≤ 1000; decide), fun lc nlc => ?_⟩
      refine pick H7 l2 l3 _ _ s27 (s27 _ _ eS) f7 (by show 0 < 5; decide) (by show 20 + 5 ≤ 40; decide) (fun Hc sc v' hv => ?_) lc nlc
      have sHc := s27.trans sc
      have hhc := tr2.same sHc
      have hdc : DqAll K (hideL (a :: L) Hc) xs ds := dqall_same (hideL_same2 sHc) h2
      have hpc : Dq K (hideL (a :: L) Hc) (.ref p) (.tuple ds) := .tup (hideL_sqt hhc (same_sqt sHc hp2)) hdc
      obtain ⟨D0, rfl⟩ : ∃ D0, D = D0 + 1 := ⟨D - 1, by have h : PyData.depthAll ds + 1 ≤ D := ht.dp; omega⟩
      have hts := ht'.items
      rcases List.mem_append.mp hv with hv | hv
      · exact gS Hc sHc v' hv
      · simp only [List.mem_cons, List.not_mem_nil, or_false] at hv
        rcases hv with rfl | rfl | rfl | rfl | rfl
        · exact ⟨_, .lst (SqL.of (hideL_at hq1a (sc _ _ (s7 _ _ (s46 _ _ (s4 _ _ f1)))))) hdc, hts.lst.mono (Nat.le_refl _) (by omega) (by omega)⟩
        · exact ⟨_, .tup (hideL_sqt hhc (SqT.of (sc _ _ (s7 _ _ (s46 _ _ (s4 _ _ f2)))))) (.cons hpc .nil), (Tms.cons ht' (.nil (W := 0))).tup.mono (Nat.le_refl _) (by omega) (by omega)⟩
        · exact ⟨_, .tup (hideL_sqt hhc (SqT.of (sc _ _ (s7 _ _ (s46 _ _ f3))))) (dqall_rev hdc), (Tms.rev (W := 0) hts).tup.mono (Nat.le_refl _) (by omega) (by omega)⟩
        · obtain ⟨W1, W2, w1, w2, w3⟩ := hts.split 1
          exact ⟨_, .tup (hideL_sqt hhc (same_sqt (s7.trans sc) h6)) (dqall_app (dqall_drop hdc) hdc), (Tms.app w2 hts).tup.mono (Nat.le_refl _) (by omega) (by omega)⟩
        · exact ⟨_, .tup (hideL_sqt hhc (SqT.of (sc _ _ f6))) (.cons (.str _) (.cons hpc (.cons hpc .nil))), (Tms.cons ((Tm.str (B := Bd + 1) (x := "sum") (by decide) (by decide)).mono (D' := D0 + 1) (Nat.le_refl _) (Nat.le_refl _) (by omega)) (Tms.cons ht' (Tms.cons ht' (.nil (W := 0))))).tup.mono (Nat.le_refl _) (by omega) (by omega)⟩
end
end NG

namespace NG
open PySem PySem.Spec PyProof.Rows L2
def spBentX (K : PySem.W.Frag) (m : Nat) : Sp := fun vs H Q _ => ∃ (a : Addr) (v : V) (d : PyData) (B W D n : Nat) (L : List Addr), vs = [.ref a, v] ∧ D < m ∧ Dq K (hideL (a :: L) H) v d ∧ Tm B W D d ∧ 2000 ≤ B ∧ B < 10 ^ 39 ∧ d.weight ≤ 20000 ∧ Tr a L n H ∧ n + 4 * m ≤ 999998000 ∧
  ∀ H' v' d', But a H H' → HandAt H' a (n + 4 * m) → Dq K (hideL (a :: L) H') v' d' → Tm (B + 1) (2 * W + 400) (D + 2) d' → Q v' H'
theorem weight_split : ∀ {ds : List PyData} {i : Nat} {d : PyData}, ds[i]? = some d → PyData.weightAll (ds.take i) + (d.weight + 1) + PyData.weightAll (ds.drop (i + 1)) = PyData.weightAll ds
  | [], i, d, h => by simp at h
  | e :: ds, 0, d, h => by
    have := Option.some.inj h
    subst this
    show 0 + (e.weight + 1) + PyData.weightAll ds = e.weight + 1 + PyData.weightAll ds
    omega
  | e :: ds, i + 1, d, h => by
    have ih := weight_split (ds := ds) (i := i) h
    show e.weight + 1 + PyData.weightAll (ds.take i) + (d.weight + 1) + PyData.weightAll (ds.drop (i + 1)) = e.weight + 1 + PyData.weightAll ds
    omega
theorem weight_at {ds : List PyData} {i : Nat} {d : PyData} (h : ds[i]? = some d) : d.weight ≤ PyData.weightAll ds := by
  have := weight_split h
  omega
section
variable {P : Program} {w : World} {K : PySem.W.Frag} {mg : Str → Option Value} {base : Heap}
theorem ok_bentX {f : Addr} {fd : FuncData} (F : Fun K "_law_bent" "_law_bent" s_L_bent f fd) (gF : mg "_law_bent" = some (.ref f)) (b : Binds K fd ["_law_hand_here", "_law_item"] []) (B : Bl mg) (c_L_take : Cal P w K mg base 1 "_law_take" spTake) (c_L_odd : Cal P w K mg base 3 "_law_odd" (spOdd K)) : ∀ m, Cal P w K mg base (m + 3) "_law_bent" (spBentX K m)
  | 0 => cal_never F gF b fun vs H Q E => by rintro ⟨_, _, _, _, _, D, _, _, _, hk, _⟩; omega
  | m + 1 => by
    have c_L_bent := ok_bentX F gF b B c_L_take c_L_odd m
    refine ⟨f, fd, _, F.ok sc_L_bent (fun vs H Q E h => ?_) (fun cdv A outer s H vs Q E hr h => ?_), gF, F.kp, b⟩
    · obtain ⟨_, _, _, _, _, _, _, _, rfl, _⟩ := h
      rfl
    · obtain ⟨a, v, d, Bd, W, D, n, L, rfl, hDm, hd, ht, hB1, hB2, hw, tr, hn, q⟩ := h
      have hh := tr.hand
      refine ⟨_, (pss_cons (ps_if (PW.pt (pw_or (pt_not (pt_val (pe_callB call_isi (by rfl) B.isinstance (by decide +kernel) (pa_cons (pv 1) (pa_cons (pe_bltn (v := .ty "tuple") (by rfl) B.tuple (by decide +kernel) rfl) pa_nil))))) (pw_or (pt_cmpR (op_eqE hr.units) (pv 1) (pe_tup pa_nil) (nomark _)) (pw_or1 (pt_cmpR op_eq (pe_c c_L_take hr (by omega) (by rfl) (pa_cons (pv 0) (pa_cons pe_int pa_nil))) pe_int (nomark _)))))) (pss_one (ps_ret (pe_c c_L_odd hr (by omega) (by rfl) (pa_cons (pv 0) (pa_cons (pv 1) pa_nil))))) pss_nil) (pss_cons (ps_par (i := 2) (j := 3) rfl sc_L_bent.nd rfl rfl (by decide) rfl rfl (pa_cons (pe_c c_L_take hr (by omega) (by rfl) (pa_cons (pv 0) (pa_cons (pe_callB call_len_seq (by rfl) B.len PySem.boot_len (pa_cons (pv 1) pa_nil)) pa_nil))) (pa_cons (pe_c c_L_take hr (by omega) (by rfl) (pa_cons (pv 0) (pa_cons pe_int pa_nil))) pa_nil)) (by rfl)) (pss_cons (ps_if (pt_cmpR op_eq (pv 3) pe_int (nomark _)) (pss_one (ps_ret (pe_op op_catA (pe_slice sl_tupA (pv 1) po_none (po_some (pv 2))) (pe_slice sl_tupA (pv 1) (po_some (pe_op op_add (pv 2) pe_int)) po_none)))) pss_nil) (pss_cons (ps_if (pt_cmpR op_eq (pv 3) pe_int (nomark _)) (pss_one (ps_ret (pe_op op_catA (pe_op op_catA (pe_slice sl_tupA (pv 1) po_none (po_some (pv 2))) (pe_slice sl_tupA (pv 1) (po_some (pv 2)) (po_some (pe_op op_add (pv 2) pe_int)))) (pe_slice sl_tupA (pv 1) (po_some (pv 2)) po_none)))) pss_nil) (pss_cons (ps_if (pt_cmpR op_eq (pv 3) pe_int (nomark _)) (pss_one (ps_ret (pe_op op_catA (pe_op op_catA (pe_slice sl_tupA (pv 1) po_none (po_some (pv 2))) (pe_revT (pe_slice sl_tupA (pv 1) (po_some (pv 2)) (po_some (pe_op op_add (pv 2) pe_int))) (pe_un un_neg pe_int))) (pe_slice sl_tupA (pv 1) (po_some (pe_op op_add (pv 2) pe_int)) po_none)))) pss_nil) (pss_one (ps_ret (pe_op op_catA (pe_op op_catA (pe_slice sl_tupA (pv 1) po_none (po_some (pv 2))) (pe_tup (pa_cons (pe_c c_L_bent hr (by omega) (by rfl) (pa_cons (pv 0) (pa_cons (pe_ix ix_tup (pv 1) (pv 2) (fun _ _ => rfl)) pa_nil))) pa_nil))) (pe_slice sl_tupA (pv 1) (po_some (pe_op op_add (pv 2) pe_int)) po_none))))))))), ?_⟩
      have hodd : ∀ (H' : Hp) (n' : Nat), But a H H' → HandAt H' a n' → n' ≤ n + 1 → spOdd K [.ref a, v] H' Q E0 := fun H' n' b' hh' hn' =>
        ⟨a, v, d, Bd, W, D, n', L, rfl, dq_same (hideL_but b') hd, ht, hB1, hB2, hw, tr.but b' hh', by omega, fun H2 v2 d2 b2 hh2 hd2 ht2 => q H2 v2 d2 (b'.trans b2) (hh2.le (by omega)) hd2 ht2⟩
      cases hd with
      | @tup p xs ds h1 h2 =>
        have hp : SqT K H p xs := same_sqt hideL_same h1
        refine ⟨.ref p, rfl, .ref p, .ty "tuple", _, _, _, rfl, .ty _, tyx_tup hp, kit_ty (show kitB "tuple" "tuple" = some true by decide +kernel), _, rfl, iteFF rfl ?_⟩
        refine ⟨.ref p, rfl, (by show 0 ≤ sizeLine; decide), fun t0 nt0 => ⟨p, t0, xs, rfl, rfl, same_sqt (same_new nt0) hp, SqT.of upd_same, _, rfl, ?_⟩⟩
        have s1 : Same H (upd H t0 (.tup [])) := same_new nt0
        generalize upd H t0 (.tup []) = H1 at s1 ⊢
        have hh1 := hh.same s1
        cases hxe : xs.isEmpty with
        | true => exact iteTT rfl ⟨.ref a, rfl, .ref p, rfl, hodd _ _ (But.of s1) hh1 (by omega)⟩
        | false =>
          refine iteFF rfl ⟨.ref a, rfl, a, 6, n, rfl, by decide, by decide, hh1, by omega, fun H2 r b2 hh2 r0 r1 => ⟨rfl, _, rfl, iteD (fun c => ?_) (fun c => ?_)⟩⟩
          · exact ⟨.ref a, rfl, .ref p, rfl, hodd _ _ ((But.of s1).trans b2) hh2 (by omega)⟩
          · have bb2 := (But.of (a := a) s1).trans b2
            have hp2 : SqT K H2 p xs := bb2.sq hh hp
            have hlen := dqall_len h2
            have hpos : 0 < xs.length := by
              cases xs with
              | nil => cases hxe
              | cons _ _ => exact Nat.succ_pos _
            have hl4 : ds.length ≤ 20000 := Nat.le_trans (len_weight ds) hw
            obtain ⟨D0, rfl⟩ : ∃ D0, D = D0 + 1 := ⟨D - 1, by have h : PyData.depthAll ds + 1 ≤ D := ht.dp; omega⟩
            refine ⟨.ref a, rfl, .ref p, rfl, p, _, rfl, .inr hp2, a, _, _, rfl, by omega, by omega, hh2, by omega, fun H3 r1 b3 hh3 r10 r11 => ?_⟩
            refine ⟨.ref a, rfl, a, 9, _, rfl, by decide, by decide, hh3, by omega, fun H4 r2 b4 hh4 r20 r21 => ⟨_, _, rfl, ?_⟩⟩
            have bb4 := (bb2.trans b3).trans b4
            have hp4 : SqT K H4 p xs := bb4.sq hh hp
            obtain ⟨i, rfl⟩ : ∃ i : Nat, r1 = (i : Int) := ⟨r1.toNat, by omega⟩
            have hi : i < xs.length := by omega
            obtain ⟨dd, hdd⟩ : ∃ dd, ds[i]? = some dd := ⟨_, List.getElem?_eq_getElem (by omega)⟩
            have ht' : Tm (Bd + 1) W (D0 + 1) (.tuple ds) := ht.mono (by omega) (Nat.le_refl _) (Nat.le_refl _)
            have hts := ht'.items
            have h24 : DqAll K (hideL (a :: L) H4) xs ds := dqall_same (hideL_but bb4) h2
            obtain ⟨W1, W2, W3, w1, w2, w3, w4⟩ := hts.at hdd
            have fin : ∀ (H7 : Hp) (t : Addr) (ys : List V) (es : List PyData), Same H4 H7 → SqT K H7 t ys → DqAll K (hideL (a :: L) H4) ys es → Tms (Bd + 1) (2 * W + 400) (D0 + 2) es → Q (.ref t) H7 := fun H7 t ys es sm hty ha hes =>
              q H7 (.ref t) (.tuple es) (bb4.trans (But.of sm)) ((hh4.same sm).le (by omega)) (.tup (hideL_sqt ((tr.but bb4 hh4).same sm) hty) (dqall_same (hideL_same2 sm) ha)) hes.tup
            have one : ∀ {x : Nat}, x ≤ 100000 → x ≤ sizeLine := fun h => Nat.le_trans h (by decide)
            refine ⟨.int r2, rfl, rfl, _, rfl, iteD (fun c0 => ?_) (fun c0 => ?_)⟩
            · refine ⟨.ref p, rfl, .int (i : Int), rfl, (i : Int), rfl, ?_⟩
              dsimp only [tNoPart]
              refine slA hp4 fun H5 t1 s5 h5 => ?_
              refine ⟨.ref p, rfl, .int (i : Int), rfl, _, _, rfl, rfl, ((i + 1 : Nat) : Int), rfl, ?_⟩
              dsimp only [tNoPart]
              refine slA (same_sqt s5 hp4) fun H6 t2 s6 h6 => ?_
              rw [cut_to] at h5
              rw [cut_from] at h6
              refine catA (same_sqt s6 h5) h6 (one (by rw [List.length_take, List.length_drop]; omega)) fun H7 t3 s7 h7 => ?_
              exact fin H7 t3 _ _ ((s5.trans s6).trans s7) h7 (dqall_app (dqall_drop h24) (dqall_take h24)) ((Tms.app w3 w1).mono (Nat.le_refl _) (by omega) (by omega))
            · refine ⟨.int r2, rfl, rfl, _, rfl, iteD (fun c1 => ?_) (fun c1 => ?_)⟩
              · refine ⟨.ref p, rfl, .int (i : Int), rfl, (i : Int), rfl, ?_⟩
                dsimp only [tNoPart]
                refine slA hp4 fun H5 t1 s5 h5 => ?_
                refine ⟨.ref p, rfl, .int (i : Int), rfl, (i : Int), rfl, .int (i : Int), rfl, _, _, rfl, rfl, ((i + 1 : Nat) : Int), rfl, ?_⟩
                refine slA (same_sqt s5 hp4) fun H6 t2 s6 h6 => ?_
                rw [cut_to] at h5
                rw [cut_mid] at h6
                refine catA (same_sqt s6 h5) h6 (one (by rw [List.length_take, List.length_take, List.length_drop]; omega)) fun H7 t3 s7 h7 => ?_
                have s57 := (s5.trans s6).trans s7
                refine ⟨.ref p, rfl, .int (i : Int), rfl, (i : Int), rfl, ?_⟩
                dsimp only [tNoPart]
                refine slA (same_sqt s57 hp4) fun H8 t4 s8 h8 => ?_
                rw [cut_from] at h8
                refine catA (same_sqt s8 h7) h8 (one (by rw [List.length_append, List.length_take, List.length_take, List.length_drop]; omega)) fun H9 t5 s9 h9 => ?_
                obtain ⟨V1, V2, v1, v2, v3⟩ := hts.split i
                obtain ⟨V3, V4, v4, v5, v6⟩ := v2.split (i + 1 - i)
                exact fin H9 t5 _ _ ((s57.trans s8).trans s9) h9 (dqall_app (dqall_drop h24) (dqall_app (dqall_take (dqall_drop h24)) (dqall_take h24))) ((Tms.app v2 (Tms.app v4 v1)).mono (Nat.le_refl _) (by omega) (by omega))
              · refine ⟨.int r2, rfl, rfl, _, rfl, iteD (fun c2 => ?_) (fun c2 => ?_)⟩
                · refine ⟨.ref p, rfl, .int (i : Int), rfl, (i : Int), rfl, ?_⟩
                  dsimp only [tNoPart]
                  refine slA hp4 fun H5 t1 s5 h5 => ?_
                  refine ⟨.ref p, rfl, .int (i : Int), rfl, (i : Int), rfl, .int (i : Int), rfl, _, _, rfl, rfl, ((i + 2 : Nat) : Int), rfl, ?_⟩
                  refine slA (same_sqt s5 hp4) fun H6 t2 s6 h6 => ?_
                  rw [cut_to] at h5
                  rw [cut_mid] at h6
                  refine ⟨_, rfl, rfl, t2, _, rfl, h6, fun t6 n6 => ?_⟩
                  have s6' := s6.trans (same_new (o := .tup ((xs.drop i).take (i + 2 - i)).reverse) n6)
                  have h6' : SqT K (upd H6 t6 (.tup ((xs.drop i).take (i + 2 - i)).reverse)) t6 _ := SqT.of upd_same
                  refine catA (same_sqt s6' h5) h6' (one (by rw [List.length_reverse, List.length_take, List.length_take, List.length_drop]; omega)) fun H7 t3 s7 h7 => ?_
                  have s57 := (s5.trans s6').trans s7
                  refine ⟨.ref p, rfl, .int (i : Int), rfl, _, _, rfl, rfl, ((i + 2 : Nat) : Int), rfl, ?_⟩
                  dsimp only [tNoPart]
                  refine slA (same_sqt s57 hp4) fun H8 t4 s8 h8 => ?_
                  rw [cut_from] at h8
                  refine catA (same_sqt s8 h7) h8 (one (by rw [List.length_append, List.length_reverse, List.length_take, List.length_take, List.length_drop, List.length_drop]; omega)) fun H9 t5 s9 h9 => ?_
                  obtain ⟨V1, V2, v1, v2, v3⟩ := hts.split i
                  obtain ⟨V3, V4, v4, v5, v6⟩ := v2.split (i + 2 - i)
                  obtain ⟨V5, V6, v7, v8, v9⟩ := hts.split (i + 2)
                  exact fin H9 t5 _ _ ((s57.trans s8).trans s9) h9 (dqall_app (dqall_drop h24) (dqall_app (dqall_rev (dqall_take (dqall_drop h24))) (dqall_take h24))) ((Tms.app v8 (Tms.app (Tms.rev (W := 0) v4) v1)).mono (Nat.le_refl _) (by omega) (by omega))
                · refine ⟨.ref p, rfl, .int (i : Int), rfl, (i : Int), rfl, ?_⟩
                  dsimp only [tNoPart]
                  refine slA hp4 fun H5 t1 s5 h5 => ?_
                  rw [cut_to] at h5
                  have hvi : xs[i]? = some (xs[i]'hi) := List.getElem?_eq_getElem hi
                  obtain ⟨x0, hx0⟩ : ∃ x0, xs[i]'hi = x0 := ⟨_, rfl⟩
                  rw [hx0] at hvi
                  obtain ⟨dd', hdd', hdx⟩ := dqall_get h24 hvi
                  rw [hdd] at hdd'
                  cases hdd'
                  have hdw : dd.weight ≤ 20000 := by
                    have h1 := weight_at hdd
                    have h2 : PyData.weightAll ds ≤ 20000 := hw
                    omega
                  refine ⟨.ref a, rfl, .ref p, rfl, .int (i : Int), rfl, p, _, (i : Int), _, rfl, rfl, same_sqt s5 hp4, at_of (j := i) rfl hvi, ?_⟩
                  have hh5 := hh4.same s5
                  refine ⟨a, x0, dd, Bd, dd.weight, D0, _, L, rfl, by omega, dq_same (hideL_same2 s5) hdx, ?_, hB1, hB2, hdw, (tr.but bb4 hh4).same s5, by omega, fun H6 v6 d6 b6 hh6 hd6 ht6 => ⟨(by show 1 ≤ sizeLine; decide), fun t6 n6 => ?_⟩⟩
                  · have h0 := ht.items
                    obtain ⟨_, _, _, _, y, _, _⟩ := h0.at hdd
                    exact ⟨y.tm, Nat.le_refl _, y.dp⟩
                  · have h5' : SqT K H6 t1 (xs.take i) := b6.sq hh5 h5
                    refine catA (same_sqt (same_new n6) h5') (SqT.of upd_same) (one (by rw [List.length_take]; show _ + 1 ≤ _; omega)) fun H7 t3 s7 h7 => ?_
                    have s67 := (same_new (o := .tup [v6]) n6).trans s7
                    have bb7 : But a H4 H7 := ((But.of s5).trans b6).trans (But.of s67)
                    have hp7 : SqT K H7 p xs := bb7.sq hh4 hp4
                    refine ⟨.ref p, rfl, .int (i : Int), rfl, _, _, rfl, rfl, ((i + 1 : Nat) : Int), rfl, ?_⟩
                    dsimp only [tNoPart]
                    refine slA hp7 fun H8 t4 s8 h8 => ?_
                    rw [cut_from] at h8
                    refine catA (same_sqt s8 h7) h8 (one (by rw [List.length_append, List.length_take, List.length_drop]; show _ + 1 + _ ≤ _; omega)) fun H9 t5 s9 h9 => ?_
                    have s69 := (s67.trans s8).trans s9
                    have bb9 : But a H4 H9 := ((But.of s5).trans b6).trans (But.of s69)
                    have hh9 := hh6.same s69
                    have h29 : DqAll K (hideL (a :: L) H9) xs ds := dqall_same (hideL_but bb9) h24
                    have hd9 : Dq K (hideL (a :: L) H9) v6 d6 := dq_same (hideL_same2 s69) hd6
                    refine q H9 (.ref t5) (.tuple (ds.take i ++ [d6] ++ ds.drop (i + 1))) (bb4.trans bb9) (hh9.le (by omega)) (.tup (hideL_sqt (tr.but (bb4.trans bb9) hh9) h9) (dqall_app (dqall_drop h29) (dqall_app (.cons hd9 .nil) (dqall_take h29)))) ?_
                    have hW := weight_split hdd
                    have hWW : PyData.weightAll ds ≤ W := ht.wt
                    have hdds : Tms (Bd + 1) (PyData.weightAll (ds.take i)) D0 (ds.take i) := ⟨w1.tm, Nat.le_refl _, w1.dp⟩
                    have hdde : Tms (Bd + 1) (PyData.weightAll (ds.drop (i + 1))) D0 (ds.drop (i + 1)) := ⟨w3.tm, Nat.le_refl _, w3.dp⟩
                    exact (Tms.app (hdde.mono (D' := D0 + 2) (Nat.le_refl _) (Nat.le_refl _) (by omega)) (Tms.app (Tms.cons ht6 (.nil (W := 0))) (hdds.mono (D' := D0 + 2) (Nat.le_refl _) (Nat.le_refl _) (by omega)))).tup.mono (Nat.le_refl _) (by omega) (by omega)
      | non => exact ⟨.non, rfl, .non, .ty "tuple", _, _, _, rfl, .ty _, .base .non, kit_ty (by decide +kernel : kitB "NoneType" "tuple" = some false), _, rfl, iteTT rfl ⟨.ref a, rfl, .non, rfl, hodd _ _ (But.refl _ _) hh (by omega)⟩⟩
      | bl bb => exact ⟨.bl bb, rfl, .bl bb, .ty "tuple", _, _, _, rfl, .ty _, .base (.bl bb), kit_ty (by decide +kernel : kitB "bool" "tuple" = some false), _, rfl, iteTT rfl ⟨.ref a, rfl, .bl bb, rfl, hodd _ _ (But.refl _ _) hh (by omega)⟩⟩
      | int z => exact ⟨.int z, rfl, .int z, .ty "tuple", _, _, _, rfl, .ty _, .base (.int z), kit_ty (by decide +kernel : kitB "int" "tuple" = some false), _, rfl, iteTT rfl ⟨.ref a, rfl, .int z, rfl, hodd _ _ (But.refl _ _) hh (by omega)⟩⟩
      | str z => exact ⟨.str z, rfl, .str z, .ty "tuple", _, _, _, rfl, .ty _, .base (.str z), kit_ty (by decide +kernel : kitB "str" "tuple" = some false), _, rfl, iteTT rfl ⟨.ref a, rfl, .str z, rfl, hodd _ _ (But.refl _ _) hh (by omega)⟩⟩
      | @lst p xs ds h1 h2 => exact ⟨.ref p, rfl, .ref p, .ty "tuple", _, _, _, rfl, .ty _, Dq.tyx (dq_same hideL_same (.lst h1 h2)), kit_ty (kit_tup (.list ds)), _, rfl, iteTT rfl ⟨.ref a, rfl, .ref p, rfl, hodd _ _ (But.refl _ _) hh (by omega)⟩⟩
      | @dic p h1 => exact ⟨.ref p, rfl, .ref p, .ty "tuple", _, _, _, rfl, .ty _, Dq.tyx (dq_same hideL_same (.dic h1)), kit_ty (kit_tup (.dict [])), _, rfl, iteTT rfl ⟨.ref a, rfl, .ref p, rfl, hodd _ _ (But.refl _ _) hh (by omega)⟩⟩
end
end NG

namespace NG
open PySem PySem.Spec PyProof.Rows L2
section
variable {P : Program} {w : World} {K : PySem.W.Frag} {mg : Str → Option Value} {base : Heap}
theorem ok_leaf {f : Addr} {fd : FuncData} (F : Fun K "_law_leaf" "_law_leaf" s_L_leaf f fd) (gF : mg "_law_leaf" = some (.ref f)) (b : Binds K fd ["_law_hand_here", "_law_signs"] []) (B : Bl mg) (c_L_take : Cal P w K mg base 1 "_law_take" spTake) (c_L_figure : Cal P w K mg base 3 "_law_figure" spFigure) : Cal P w K mg base 4 "_law_leaf" (spLeaf K) := by
  refine ⟨f, fd, _, F.ok sc_L_leaf (fun vs H Q E h => ?_) (fun cdv A outer s H vs Q E hr h => ?_), gF, F.kp, b⟩
  · obtain ⟨_, _, _, rfl, _⟩ := h
    rfl
  · obtain ⟨a, many, n, rfl, hm1, hm2, hh, hn, q⟩ := h
    refine ⟨_, (pss_cons (ps_set (i := 2) sc_L_leaf.nd rfl (.inl rfl) (pe_c c_L_take hr (by omega) (by rfl) (pa_cons (pv 0) (pa_cons pe_int pa_nil)))) (pss_cons (ps_if (pt_cmpR op_eq (pv 2) pe_int (nomark _)) (pss_one (ps_ret (pe_tup (pa_cons pe_str (pa_cons (pe_c c_L_take hr (by omega) (by rfl) (pa_cons (pv 0) (pa_cons pe_int pa_nil))) pa_nil))))) pss_nil) (pss_one (ps_ret (pe_ifExp (pt_cmpR op_eq (pv 2) pe_int (nomark _)) (pe_tup (pa_cons pe_str (pa_cons (pe_c c_L_figure hr (by omega) (by rfl) (pa_cons (pv 0) pa_nil)) pa_nil))) (pe_tup (pa_cons pe_str (pa_cons (pe_c c_L_take hr (by omega) (by rfl) (pa_cons (pv 0) (pa_cons (pv 1) pa_nil))) pa_nil)))))))), ?_⟩
    refine ⟨.ref a, rfl, a, 4, n, rfl, by decide, by decide, hh, by omega, fun H1 r b1 hh1 r0 r1 => ?_⟩
    refine ⟨.int r, rfl, rfl, _, rfl, iteD (fun c => ?_) (fun c => ?_)⟩
    · refine ⟨.ref a, rfl, a, 4, n + 1, rfl, by decide, by decide, hh1, by omega, fun H2 r2 b2 hh2 r20 r21 => ⟨(by show 2 ≤ sizeLine; decide), fun p np => ?_⟩⟩
      refine q _ _ (.reg r2.toNat) ((b1.trans b2).trans (But.new np)) ((hh2.new np).le (by omega)) ⟨p, rfl, ?_⟩ (by show r2.toNat < 4; omega) (Nat.le_refl _)
      rw [Int.toNat_of_nonneg r20]
      exact SqT.of upd_same
    · refine ⟨.int r, rfl, rfl, _, rfl, iteD (fun c => ?_) (fun c => ?_)⟩
      · refine ⟨.ref a, rfl, a, n + 1, rfl, hh1, by omega, fun H2 r2 b2 hh2 r20 r21 => ⟨(by show 2 ≤ sizeLine; decide), fun p np => ?_⟩⟩
        exact q _ _ (.fig r2) ((b1.trans b2).trans (But.new np)) ((hh2.new np).le (by omega)) ⟨p, rfl, SqT.of upd_same⟩ ⟨r20, r21⟩ (Nat.le_refl _)
      · refine ⟨.ref a, rfl, .int (many : Int), rfl, a, _, n + 1, rfl, by omega, by omega, hh1, by omega, fun H2 r2 b2 hh2 r20 r21 => ⟨(by show 2 ≤ sizeLine; decide), fun p np => ?_⟩⟩
        refine q _ _ (.share r2.toNat) ((b1.trans b2).trans (But.new np)) ((hh2.new np).le (by omega)) ⟨p, rfl, ?_⟩ (by show r2.toNat < many; omega) (Nat.le_refl _)
        rw [Int.toNat_of_nonneg r20]
        exact SqT.of upd_same
def isW (s : Str) : Prop := s = "sum" ∨ s = "less" ∨ s = "least" ∨ s = "most" ∨ s = "times" ∨ s = "by" ∨ s = "when" ∨ s = "leaf" ∨ s = "where"
theorem ok_expr {f : Addr} {fd : FuncData} (F : Fun K "_law_expression" "_law_expression" s_L_expression f fd) (gF : mg "_law_expression" = some (.ref f)) (b : Binds K fd ["_law_hand_here", "_law_signs", "_law_level", "_law_jumps"] []) (B : Bl mg) (c_L_take : Cal P w K mg base 1 "_law_take" spTake) (c_L_of : Cal P w K mg base 2 "_law_of" (spOf K)) (c_L_figure : Cal P w K mg base 3 "_law_figure" spFigure) (c_L_leaf : Cal P w K mg base 4 "_law_leaf" (spLeaf K)) : ∀ n, Cal P w K mg base (n + 4) "_law_expression" (spExpr K n) := by
  intro n
  induction n with
  | zero =>
    refine cal_never F gF b fun vs H Q E h => ?_
    obtain ⟨_, _, l, _, _, hl, _⟩ := h
    omega
  | succ n c_L_expression =>
  refine ⟨f, fd, _, F.ok sc_L_expression (fun vs H Q E h => ?_) (fun cdv A outer s H vs Q E hr h => ?_), gF, F.kp, b⟩
  · obtain ⟨_, _, _, _, rfl, _⟩ := h
    rfl
  · obtain ⟨a, many, l, k, rfl, hl, hm1, hm2, hh, hk, q⟩ := h
    refine ⟨_, (pss_cons (ps_set (i := 4) sc_L_expression.nd rfl (.inl rfl) (pe_lst (pa_cons pe_str (pa_cons pe_str (pa_cons pe_str (pa_cons pe_str (pa_cons pe_str (pa_cons pe_str (pa_cons pe_str (pa_cons pe_str (pa_cons pe_str (pa_cons pe_str pa_nil)))))))))))) (pss_cons (ps_set (i := 4) sc_L_expression.nd rfl (.inl rfl) (pe_op op_cat (pv 4) (pe_op op_rep (pe_lst (pa_cons pe_str (pa_cons pe_str pa_nil))) (pv 3)))) (pss_cons (ps_set (i := 5) sc_L_expression.nd rfl (.inl rfl) (pe_cut (pe_ifExp (pt_cmpR op_eq (pv 2) pe_int (nomark _)) pe_str (pe_c c_L_of hr (by omega) (by rfl) (pa_cons (pv 0) (pa_cons (pv 4) pa_nil)))))) (pss_cons (ps_if (pt_cmpR op_eq (pv 5) pe_str (nomark _)) (pss_one (ps_ret (pe_c c_L_leaf hr (by omega) (by rfl) (pa_cons (pv 0) (pa_cons (pv 1) pa_nil))))) pss_nil) (pss_cons (ps_set (i := 6) sc_L_expression.nd rfl (.inl rfl) (pe_c c_L_expression hr (by omega) (by rfl) (pa_cons (pv 0) (pa_cons (pv 1) (pa_cons (pe_op op_sub (pv 2) pe_int) (pa_cons (pv 3) pa_nil)))))) (pss_cons (ps_if (pt_cmpR op_eq (pv 5) pe_str (nomark _)) (pss_one (ps_ret (pe_tup (pa_cons (pv 5) (pa_cons (pe_op op_sub (pe_c c_L_take hr (by omega) (by rfl) (pa_cons (pv 0) (pa_cons pe_int pa_nil))) pe_int) (pa_cons (pv 6) pa_nil)))))) pss_nil) (pss_cons (ps_if (pt_cmpR op_eq (pv 5) pe_str (nomark _)) (pss_one (ps_ret (pe_tup (pa_cons (pv 5) (pa_cons (pe_c c_L_take hr (by omega) (by rfl) (pa_cons (pv 0) (pa_cons pe_int pa_nil))) (pa_cons (pv 6) pa_nil)))))) pss_nil) (pss_cons (ps_set (i := 7) sc_L_expression.nd rfl (.inl rfl) (pe_c c_L_expression hr (by omega) (by rfl) (pa_cons (pv 0) (pa_cons (pv 1) (pa_cons (pe_op op_sub (pv 2) pe_int) (pa_cons (pv 3) pa_nil)))))) (pss_cons (ps_if (pt_cmpR op_eq (pv 5) pe_str (nomark _)) (pss_one (ps_ret (pe_tup (pa_cons (pv 5) (pa_cons (pe_c c_L_take hr (by omega) (by rfl) (pa_cons (pv 0) (pa_cons pe_int pa_nil))) (pa_cons (pe_c c_L_figure hr (by omega) (by rfl) (pa_cons (pv 0) pa_nil)) (pa_cons (pv 6) (pa_cons (pv 7) pa_nil)))))))) pss_nil) (pss_cons (ps_if (pt_cmpR op_eq (pv 5) pe_str (nomark _)) (pss_cons (ps_set (i := 8) sc_L_expression.nd rfl (.inl rfl) (pe_c c_L_of hr (by omega) (by rfl) (pa_cons (pv 0) (pa_cons (pe_lst (pa_cons pe_int (pa_cons pe_int (pa_cons pe_int (pa_cons pe_int (pa_cons pe_int (pa_cons (pe_op op_add pe_int (pe_c c_L_take hr (by omega) (by rfl) (pa_cons (pv 0) (pa_cons pe_int pa_nil)))) pa_nil))))))) pa_nil)))) (pss_one (ps_ret (pe_tup (pa_cons (pv 5) (pa_cons (pe_c c_L_take hr (by omega) (by rfl) (pa_cons (pv 0) (pa_cons (pv 1) pa_nil))) (pa_cons (pv 8) (pa_cons (pv 6) (pa_cons (pv 7) pa_nil))))))))) pss_nil) (pss_one (ps_ret (pe_tup (pa_cons (pv 5) (pa_cons (pv 6) (pa_cons (pv 7) pa_nil)))))))))))))))), ?_⟩
    refine ⟨(by show 10 ≤ sizeLine; decide), fun p1 n1 => ?_⟩
    have hh1 := hh.new (o := .lst [.str "sum", .str "less", .str "least", .str "most", .str "least", .str "most", .str "times", .str "by", .str "when", .str "leaf"]) n1
    refine ⟨.ref p1, rfl, (by show 2 ≤ sizeLine; decide), fun p2 n2 => ?_⟩
    have e1 : (upd H p1 (.lst [.str "sum", .str "less", .str "least", .str "most", .str "least", .str "most", .str "times", .str "by", .str "when", .str "leaf"])) p1 = _ := upd_same
    have hh2 := hh1.new (o := .lst [.str "where", .str "where"]) n2
    refine ⟨.int 1, rfl, p2, 1, _, rfl, rfl, upd_same, by decide, by decide, (by show 2 * 1 ≤ sizeLine; decide), fun p3 n3 => ?_⟩
    have hh3 := hh2.new (o := .lst [.str "where", .str "where"]) n3
    have e2 : (upd (upd H p1 (.lst [.str "sum", .str "less", .str "least", .str "most", .str "least", .str "most", .str "times", .str "by", .str "when", .str "leaf"])) p2 (.lst [.str "where", .str "where"])) p1 = _ := (upd_ne (ne_of_none e1 n2)).trans e1
    refine ⟨p1, p3, _, _, rfl, rfl, (upd_ne (ne_of_none e2 n3)).trans e2, upd_same, (by show 12 ≤ sizeLine; decide), fun p4 n4 => ?_⟩
    have hh4 := hh3.new (o := .lst [.str "sum", .str "less", .str "least", .str "most", .str "least", .str "most", .str "times", .str "by", .str "when", .str "leaf", .str "where", .str "where"]) n4
    have b4 : But a H _ := (((But.new (a := a) n1).trans (But.new n2)).trans (But.new n3)).trans (But.new (o := .lst [.str "sum", .str "less", .str "least", .str "most", .str "least", .str "most", .str "times", .str "by", .str "when", .str "leaf", .str "where", .str "where"]) n4)
    have ne4 := hh3.ne n4
    -- the word
    refine ⟨fun v H' => But a H H' ∧ HandAt H' a (k + 1) ∧ ∃ s : Str, v = .str s ∧ isW s ∧ (l = 0 → s = "leaf"), ?_, fun v H5 hv => ?_⟩
    · refine ⟨.int (l : Int), rfl, rfl, _, rfl, iteD (fun c => ?_) (fun c => ?_)⟩
      · exact ⟨b4, hh4.le (by omega), _, rfl, by unfold isW; simp, fun _ => rfl⟩
      · refine ⟨.ref a, rfl, .ref p4, rfl, a, p4, _, k, rfl, ne4.symm, upd_same, (by show 0 < 12; decide), (by show 12 ≤ 1000; decide), hh4, by omega, fun H5 v b5 hh5 hv => ⟨b4.trans b5, hh5, ?_⟩⟩
        have hl0 : l ≠ 0 := fun z => c (by rw [z]; rfl)
        have key : ∃ s : Str, v = .str s ∧ isW s := by
          have hv : v ∈ ([.str "sum", .str "less", .str "least", .str "most", .str "least", .str "most", .str "times", .str "by", .str "when", .str "leaf", .str "where", .str "where"] : List V) := hv
          simp only [List.mem_cons, List.not_mem_nil, or_false] at hv
          rcases hv with rfl | rfl | rfl | rfl | rfl | rfl | rfl | rfl | rfl | rfl | rfl | rfl
          all_goals exact ⟨_, rfl, by unfold isW; simp⟩
        obtain ⟨s, rfl, hs⟩ := key
        exact ⟨s, rfl, hs, fun z => absurd z hl0⟩
    obtain ⟨b5, hh5, sw, rfl, hw, hl0⟩ := hv
    refine ⟨.str sw, rfl, rfl, _, rfl, iteD (fun c => ?_) (fun c => ?_)⟩
    · refine ⟨.ref a, rfl, .int (many : Int), rfl, a, many, k + 1, rfl, hm1, hm2, hh5, by have := cost_ge l; omega, fun H6 v e b6 hh6 he ho hd => ?_⟩
      exact q _ _ e (b5.trans b6) (hh6.le (by have := cost_ge l; omega)) he ho (by omega)
    · have hsl : sw ≠ "leaf" := fun z => c (by rw [z])
      obtain ⟨l', rfl⟩ : ∃ l', l = l' + 1 := by
        cases l with
        | zero => exact absurd (hl0 rfl) hsl
        | succ l' => exact ⟨l', rfl⟩
      have hcost : cost (l' + 1) = 2 * cost l' + 20 := rfl
      have elev : V.int (((l' + 1 : Nat) : Int) - 1) = V.int (l' : Int) := by
        congr 1
        omega
      refine ⟨.ref a, rfl, .int (many : Int), rfl, .int ((l' + 1 : Nat) : Int), rfl, _, 1, rfl, rfl, .int 1, rfl, a, many, l', k + 1, (by show [V.ref a, V.int (many : Int), V.int (((l' + 1 : Nat) : Int) - 1), V.int 1] = _; rw [elev]), by omega, hm1, hm2, hh5, by omega, fun H6 x e1 b6 hh6 he1 ho1 hd1 => ?_⟩
      have b06 := b5.trans b6
      -- times
      refine ⟨.str sw, rfl, rfl, _, rfl, iteD (fun c => ?_) (fun ct => ?_)⟩
      · have c : sw = "times" := V.str.inj c
        subst c
        refine ⟨_, rfl, .ref a, rfl, a, 19, _, rfl, by decide, by decide, hh6, by omega, fun H7 r b7 hh7 r0 r1 => ⟨_, 9, rfl, rfl, x, rfl, (by show 3 ≤ sizeLine; decide), fun p np => ?_⟩⟩
        exact q _ _ (.times (r - 9) e1) ((b06.trans b7).trans (But.new np)) ((hh7.new np).le (by omega)) ⟨p, x, rfl, SqT.of upd_same, (he1.but b7 hh6).new np⟩ ⟨⟨by omega, by omega⟩, ho1⟩ (by show e1.dep + 1 ≤ _; omega)
      -- by
      refine ⟨.str sw, rfl, rfl, _, rfl, iteD (fun c => ?_) (fun cb => ?_)⟩
      · have c : sw = "by" := V.str.inj c
        subst c
        refine ⟨_, rfl, .ref a, rfl, a, 4, _, rfl, by decide, by decide, hh6, by omega, fun H7 r b7 hh7 r0 r1 => ⟨x, rfl, (by show 3 ≤ sizeLine; decide), fun p np => ?_⟩⟩
        refine q _ _ (.by r.toNat e1) ((b06.trans b7).trans (But.new np)) ((hh7.new np).le (by omega)) ⟨p, x, rfl, ?_, (he1.but b7 hh6).new np⟩ ⟨by omega, ho1⟩ (by show e1.dep + 1 ≤ _; omega)
        rw [Int.toNat_of_nonneg r0]
        exact SqT.of upd_same
      -- the other part
      refine ⟨.ref a, rfl, .int (many : Int), rfl, .int ((l' + 1 : Nat) : Int), rfl, _, 1, rfl, rfl, .int 1, rfl, a, many, l', k + 1 + cost l', (by show [V.ref a, V.int (many : Int), V.int (((l' + 1 : Nat) : Int) - 1), V.int 1] = _; rw [elev]), by omega, hm1, hm2, hh6, by omega, fun H7 y e2 b7 hh7 he2 ho2 hd2 => ?_⟩
      have b07 := b06.trans b7
      have he1 := he1.but b7 hh6
      -- when
      refine ⟨.str sw, rfl, rfl, _, rfl, iteD (fun c => ?_) (fun cw => ?_)⟩
      · have c : sw = "when" := V.str.inj c
        subst c
        refine ⟨_, rfl, .ref a, rfl, a, 4, _, rfl, by decide, by decide, hh7, by omega, fun H8 r b8 hh8 r0 r1 => ⟨.ref a, rfl, a, _, rfl, hh8, by omega, fun H9 cc b9 hh9 c0 c1 => ⟨x, rfl, y, rfl, (by show 5 ≤ sizeLine; decide), fun p np => ?_⟩⟩⟩
        refine q _ _ (.when r.toNat cc e1 e2) (((b07.trans b8).trans b9).trans (But.new np)) ((hh9.new np).le (by omega)) ⟨p, x, y, rfl, ?_, ((he1.but b8 hh7).but b9 hh8).new np, ((he2.but b8 hh7).but b9 hh8).new np⟩ ⟨by omega, ⟨c0, c1⟩, ho1, ho2⟩ (by show max e1.dep e2.dep + 1 ≤ _; omega)
        rw [Int.toNat_of_nonneg r0]
        exact SqT.of upd_same
      -- where
      refine ⟨.str sw, rfl, rfl, _, rfl, iteD (fun c => ?_) (fun cr => ?_)⟩
      · have c : sw = "where" := V.str.inj c
        subst c
        refine ⟨.ref a, rfl, .ref a, rfl, a, 1000, _, rfl, by decide, by decide, hh7, by omega, fun H8 r b8 hh8 r0 r1 => ⟨1, _, rfl, rfl, (by show 6 ≤ sizeLine; decide), fun p5 n5 => ?_⟩⟩
        have hh9 := hh8.new (o := .lst [.int 1, .int 250, .int 333, .int 500, .int 1000, .int (1 + r)]) n5
        refine ⟨a, p5, _, _, rfl, (hh8.ne n5).symm, upd_same, (by show 0 < 6; decide), (by show 6 ≤ 1000; decide), hh9, by omega, fun H10 v b10 hh10 hv => ?_⟩
        have key : ∃ cc : Int, v = .int cc ∧ 1 ≤ cc ∧ cc ≤ 1000 := by
          have hv : v ∈ ([.int 1, .int 250, .int 333, .int 500, .int 1000, .int (1 + r)] : List V) := hv
          simp only [List.mem_cons, List.not_mem_nil, or_false] at hv
          rcases hv with rfl | rfl | rfl | rfl | rfl | rfl
          all_goals exact ⟨_, rfl, by omega, by omega⟩
        obtain ⟨cc, rfl, c0, c1⟩ := key
        refine ⟨_, rfl, .ref a, rfl, .int (many : Int), rfl, a, many, _, rfl, by omega, by omega, hh10, by omega, fun H11 j b11 hh11 j0 j1 => ⟨_, rfl, x, rfl, y, rfl, (by show 5 ≤ sizeLine; decide), fun p np => ?_⟩⟩
        refine q _ _ (.whr j.toNat cc e1 e2) (((((b07.trans b8).trans (But.new n5)).trans b10).trans b11).trans (But.new np)) ((hh11.new np).le (by omega)) ⟨p, x, y, rfl, ?_, ((((he1.but b8 hh7).new n5).but b10 hh9).but b11 hh10).new np, ((((he2.but b8 hh7).new n5).but b10 hh9).but b11 hh10).new np⟩ ⟨by omega, ⟨c0, c1⟩, ho1, ho2⟩ (by show max e1.dep e2.dep + 1 ≤ _; omega)
        rw [Int.toNat_of_nonneg j0]
        exact SqT.of upd_same
      -- the others
      refine ⟨_, rfl, x, rfl, y, rfl, (by show 3 ≤ sizeLine; decide), fun p np => ?_⟩
      have key : ∃ o : W4, sw = wn o := by
        rcases hw with rfl | rfl | rfl | rfl | rfl | rfl | rfl | rfl | rfl
        · exact ⟨.sum, rfl⟩
        · exact ⟨.less, rfl⟩
        · exact ⟨.least, rfl⟩
        · exact ⟨.most, rfl⟩
        · exact absurd rfl ct
        · exact absurd rfl cb
        · exact absurd rfl cw
        · exact absurd rfl hsl
        · exact absurd rfl cr
      obtain ⟨o, rfl⟩ := key
      exact q _ _ (.two o e1 e2) (b07.trans (But.new np)) ((hh7.new np).le (by omega)) ⟨p, x, y, rfl, SqT.of upd_same, he1.new np, he2.new np⟩ ⟨ho1, ho2⟩ (by show max e1.dep e2.dep + 1 ≤ _; omega)
end
end NG

namespace NG
open PySem PySem.Spec PyProof.Rows L2
/-! ### a def with defaults, called by fewer arguments -/
structure CalD (P : Program) (w : World) (K : PySem.W.Frag) (mg : Str → Option Value) (base : Heap) (k : Nat) (x : Str) (dvs : List V) (sp : Sp) : Prop where
  ex : ∃ (f : Addr) (fd : FuncData) (ps : List Str) (ds : List Value), FnOk P w K mg base CX0 k f fd ps sp ∧ mg x = some (.ref f) ∧ PySem.W.keepIn K (.ref f) = true ∧ Binds K fd ps ds ∧ Vals dvs ds
theorem pe_cd {X : Cx} {k j : Nat} {x : Str} {dvs : List V} {sp : Sp} {p pos : Pos} {e : Expr} {es : List Expr} {t : TA} (c : CalD X.prog X.w X.K X.mg X.base k x dvs sp) (hr : Room j X.A) (hk : k ≤ j) (hg : Gl X x) (ha : PA X (e :: es) t)
    (hdb : (x == ("__debug__" : Str)) = false := by decide) (he : starEach (e :: es) X.env = (false, eval e X.env) :: starEach es X.env := by rfl) (hpl : (backTo pos (starEach es X.env)).any (·.1) = false := by rfl) :
    PE X (.Call (.Name x p) (e :: es) [] pos) (tCall sp dvs E0 t) := by
  obtain ⟨f, fd, ps, ds, F, hm, kp, b, hd⟩ := c.ex
  exact pe_call F (hr.mono hk) hg hm kp b hd pass0 ha hdb he hpl
theorem fund_mk {K : PySem.W.Frag} {x qual : Str} {st : Stmt} {f dT : Addr} {oc : Value} {od odT : Option Addr} {kV doc pm : Value} {an : Option Addr} {cdv ct : Value} {osl slT : Array (Option Value)} {its : Array Value} {m : Nat} {dvs : List V}
    (l : K.lookup f = some ⟨oc, od, .func (PySem.W.fnOf x qual (defArgs st) (defBody st) (defScope st) (.ref dT) kV doc pm an cdv ct), osl⟩) (c : PySem.W.codeIn K cdv qual = true) (kp : PySem.W.keepIn K (.ref f) = true)
    (lt : K.lookup dT = some ⟨.type "tuple", odT, .seq its m, slT⟩) (hv : Vals dvs its.toList) (hn : dvs ≠ []) : FunD K x qual (defArgs st) (defBody st) (defScope st) dvs [] f (PySem.W.fnOf x qual (defArgs st) (defBody st) (defScope st) (.ref dT) kV doc pm an cdv ct) :=
  ⟨⟨oc, od, .ref dT, kV, doc, pm, an, cdv, ct, osl, rfl, l, c, .inr ⟨hn, dT, _, its.toList, m, rfl, lt, by simp, hv⟩, .inl rfl⟩, kp⟩
theorem fund_ok {P : Program} {w : World} {K : PySem.W.Frag} {mg : Str → Option Value} {base : Heap} {x qual : Str} {params : Arguments} {body : List Stmt} {scope : Scope} {dvs : List V} {kws : List (Str × V)} {f : Addr} {fd : FuncData} {N ps : List Str} {k : Nat} {sp : Sp} (F : FunD K x qual params body scope dvs kws f fd) (S : FnScope N ps scope) (len : ∀ vs H Q E, sp vs H Q E → vs.length = ps.length)
    (hbody : ∀ (cdv : Value) (A : Around) (outer : List Env) (s : Shared) (H : Hp) (vs : List V) (Q : VK) (E : XK), Room k (A.deeper (envOfC qual scope s.heap.objs.size f cdv)) → sp vs H Q E →
      ∃ t, PSs (cxOf CX0 P w K mg base N qual scope f cdv A outer s H E).nox body t ∧ t { nx := fun _ H' => Q .non H', rt := Q } (start N vs) H) : FnOk P w K mg base CX0 (k + 1) f fd ps sp :=
  F.ok S len fun cdv A outer s H vs Q E hr h => by
    obtain ⟨t, ht, hq⟩ := hbody cdv A outer s H vs Q E hr h
    exact ⟨t, ht.nox, hq⟩
theorem binds_full {K : PySem.W.Frag} {fd : FuncData} {ps : List Str} {dvs : List V} {n : Nat} (h : ∃ ds, Vals (List.drop n dvs) ds ∧ L2.Binds K fd ps ds) (hn : List.drop n dvs = []) : L2.Binds K fd ps [] := by
  obtain ⟨ds, hd, hb⟩ := h
  rw [hn] at hd
  cases hd
  exact hb
/-! ### expressions without where words -/
def noW : Ex → Prop
  | .fig _ => True
  | .reg _ => True
  | .share _ => True
  | .two _ a b => noW a ∧ noW b
  | .times _ a => noW a
  | .by _ a => noW a
  | .when _ _ a b => noW a ∧ noW b
  | .whr _ _ _ _ => False
theorem noW_kids : ∀ {e : Ex}, noW e → ∀ k ∈ e.kids, noW k
  | .fig _, _, k, hk => by cases hk
  | .reg _, _, k, hk => by cases hk
  | .share _, _, k, hk => by cases hk
  | .two _ a b, h, k, hk => by
    rcases List.mem_cons.mp hk with rfl | hk
    · exact h.1
    · rw [List.mem_singleton.mp hk]; exact h.2
  | .times _ a, h, k, hk => by rw [List.mem_singleton.mp hk]; exact h
  | .by _ a, h, k, hk => by rw [List.mem_singleton.mp hk]; exact h
  | .when _ _ a b, h, k, hk => by
    rcases List.mem_cons.mp hk with rfl | hk
    · exact h.1
    · rw [List.mem_singleton.mp hk]; exact h.2
  | .whr _ _ _ _, h, k, hk => h.elim
end NG

namespace NG
open PySem PySem.Spec PyProof.Rows L2
/-! ### doubters that are such -/
theorem sumB_cons {t i : Nat} {r : List (Option Nat)} (h : t + i ≤ 20) : sumB t (some i :: r) = sumB (t + i) r := by
  show (if 20 < t + i then none else sumB (t + i) r) = _
  rw [if_neg (by omega)]
theorem cntB_sum (many : Int) (k : Nat) (ds : List PyData) (h : ds = [] ∨ ∃ k', k = k' + 1) : cntB many k (.tuple ds) = sumB 0 (ds.map (deedD many (cntB many (k - 1)))) := by
  rcases h with rfl | ⟨k', rfl⟩
  · cases k <;> rfl
  · rfl
theorem op_fits {many : Nat} {o : D5} {i : Nat} {x : Int} (hi : i < 4) (hx : xok many o x) : fitsD many (wbsh (.op o)) [.int (i : Int), .int x] = true := by
  cases o with
  | put => simp only [wbsh, fitsD, fitD]; rw [inD_of (by omega) (by omega), inD_of hx.1 hx.2]; rfl
  | add => simp only [wbsh, fitsD, fitD]; rw [inD_of (by omega) (by omega), inD_of hx.1 hx.2]; rfl
  | copy => have h1 := hx.1; have h2 := hx.2; simp only [wbsh, fitsD, fitD]; rw [inD_of (by omega) (by omega), inD_of h1 (by omega)]; rfl
  | plus => have h1 := hx.1; have h2 := hx.2; simp only [wbsh, fitsD, fitD]; rw [inD_of (by omega) (by omega), inD_of h1 (by omega)]; rfl
  | told => have h1 := hx.1; have h2 := hx.2; simp only [wbsh, fitsD, fitD]; rw [inD_of (by omega) (by omega), inD_of h1 (by omega)]; rfl
theorem cntB_of {many : Nat} : ∀ {d : Ds} {k t : Nat}, DsOk many d → d.dep ≤ k → t + d.cnt ≤ 20 → sumB t ((dsD d).map (deedD many (cntB many (k - 1)))) = some (t + d.cnt)
  | .nil, k, t, _, _, _ => rfl
  | .op o i x r, k, t, ⟨h1, h2, h3⟩, hd, hc => by
    have hd : max 1 r.dep ≤ k := hd
    have hc : t + (1 + r.cnt) ≤ 20 := hc
    have e : deedD many (cntB many (k - 1)) (.tuple [.str (dn o), .int (i : Int), .int x]) = some 1 := by
      have := deedD_eq many (cntB many (k - 1)) (.op o) [.int (i : Int), .int x]
      rw [if_pos (op_fits h1 h2)] at this
      exact this
    show sumB t (deedD many (cntB many (k - 1)) (.tuple [.str (dn o), .int (i : Int), .int x]) :: (dsD r).map (deedD many (cntB many (k - 1)))) = some (t + (1 + r.cnt))
    rw [e, sumB_cons (by omega), cntB_of h3 (by omega) (by omega)]
    congr 1
    omega
  | .when i c a b r, k, t, ⟨h1, h2, h3, h4, h5⟩, hd, hc => by
    have hd : max (max a.dep b.dep + 1) r.dep ≤ k := hd
    have hc : t + (1 + (a.cnt + b.cnt) + r.cnt) ≤ 20 := hc
    have ca : cntB many (k - 1) (.tuple (dsD a)) = some a.cnt := by
      rw [cntB_sum many (k - 1) (dsD a) (by
        cases a with
        | nil => exact .inl rfl
        | op o i x r => have : max 1 r.dep ≤ k - 1 := by have h : (Ds.op o i x r).dep = max 1 r.dep := rfl; omega
                        exact .inr ⟨k - 2, by omega⟩
        | when i c a b r => have : max (max a.dep b.dep + 1) r.dep ≤ k - 1 := by have h : (Ds.when i c a b r).dep = max (max a.dep b.dep + 1) r.dep := rfl; omega
                            exact .inr ⟨k - 2, by omega⟩), cntB_of h3 (by omega) (by omega), Nat.zero_add]
    have cb : cntB many (k - 1) (.tuple (dsD b)) = some b.cnt := by
      rw [cntB_sum many (k - 1) (dsD b) (by
        cases b with
        | nil => exact .inl rfl
        | op o i x r => have : max 1 r.dep ≤ k - 1 := by have h : (Ds.op o i x r).dep = max 1 r.dep := rfl; omega
                        exact .inr ⟨k - 2, by omega⟩
        | when i c a b r => have : max (max a.dep b.dep + 1) r.dep ≤ k - 1 := by have h : (Ds.when i c a b r).dep = max (max a.dep b.dep + 1) r.dep := rfl; omega
                            exact .inr ⟨k - 2, by omega⟩), cntB_of h4 (by omega) (by omega), Nat.zero_add]
    have e : deedD many (cntB many (k - 1)) (.tuple [.str "when", .int (i : Int), .int c, .tuple (dsD a), .tuple (dsD b)]) = some (1 + a.cnt + b.cnt) := by
      have := deedD_eq many (cntB many (k - 1)) .when [.int (i : Int), .int c, .tuple (dsD a), .tuple (dsD b)]
      rw [if_pos (by simp only [wbsh, fitsD, fitD]; rw [inD_of (by omega) (by omega), inD_of h2.1 h2.2]; rfl)] at this
      refine this.trans ?_
      show addB 1 [cntB many (k - 1) (.tuple (dsD a)), cntB many (k - 1) (.tuple (dsD b))] = _
      rw [ca, cb]
      rfl
    show sumB t (deedD many (cntB many (k - 1)) (.tuple [.str "when", .int (i : Int), .int c, .tuple (dsD a), .tuple (dsD b)]) :: (dsD r).map (deedD many (cntB many (k - 1)))) = some (t + (1 + (a.cnt + b.cnt) + r.cnt))
    rw [e, sumB_cons (by omega), cntB_of h5 (by omega) (by omega)]
    congr 1
    omega
theorem wdB_of {many : Int} : ∀ {k : Nat} {d : Ds}, wdB many k (.tuple (dsD d))
  | 0, _ => trivial
  | k + 1, d => fun ds e x hx => by
    cases e
    have go : ∀ {d : Ds}, x ∈ dsD d → ∃ w es, x = .tuple (.str (wbn w) :: es) ∧ (fitsD many (wbsh w) es = true → ∀ y ∈ es.drop 2, wdB many k y) := by
      intro d
      induction d with
      | nil => intro hx; cases hx
      | op o i z r ih =>
        intro hx
        rcases List.mem_cons.mp hx with rfl | hx
        · exact ⟨.op o, _, rfl, fun _ y hy => by cases hy⟩
        · exact ih hx
      | when i c a b r iha ihb ih =>
        intro hx
        rcases List.mem_cons.mp hx with rfl | hx
        · refine ⟨.when, _, rfl, fun _ y hy => ?_⟩
          rcases List.mem_cons.mp hy with rfl | hy
          · exact wdB_of
          · rw [List.mem_singleton.mp hy]
            exact wdB_of
        · exact ih hx
    exact go hx
structure DbFit (many : Nat) (D : Dbt) : Prop where
  nm : nameD D.name = true
  sc : D.scale < 5
  rg : RegOk D.begins
  sl : D.stakes.length = many
  st : ∀ e ∈ D.stakes, ExOk many e ∧ e.dep ≤ 8 ∧ e.size ≤ 40 ∧ -(500 * pw2 D.scale) ≤ (spn e).1 ∧ (spn e).2 ≤ 500 * pw2 D.scale
  bl : D.behinds.length = many
  bh : ∀ d ∈ D.behinds, DsOk many d ∧ d.dep ≤ 4 ∧ d.cnt ≤ 20
theorem all_map_of {α β : Type} {f : α → β} {p : β → Bool} {l : List α} (h : ∀ x ∈ l, p (f x) = true) : (l.map f).all p = true := by
  rw [List.all_eq_true]
  intro y hy
  obtain ⟨x, hx, rfl⟩ := List.mem_map.mp hy
  exact h x hx
theorem dbtD_true {many : Nat} {D : Dbt} (h : DbFit many D) : dbtD many D.name (D.scale : Int) (D.begins.map PyData.int) (D.stakes.map toD) (D.behinds.map fun d => .tuple (dsD d)) = true := by
  unfold dbtD
  have h1 : regsD (D.begins.map PyData.int) = true := by
    unfold regsD
    rw [List.length_map, decide_eq_true h.rg.1, Bool.true_and]
    exact all_map_of fun x hx => inD_of (h.rg.2 x hx).1 (h.rg.2 x hx).2
  have hsc := h.sc
  rw [h.nm, decide_eq_true (show (0 : Int) ≤ (D.scale : Int) by omega), decide_eq_true (show (D.scale : Int) ≤ 4 by omega), h1]
  refine (if_pos rfl).trans ?_
  rw [List.length_map, List.length_map, decide_eq_true h.sl, decide_eq_true h.bl, Bool.true_and, Bool.true_and, Bool.and_eq_true]
  refine ⟨all_map_of fun e he => ?_, all_map_of fun d hd => ?_⟩
  · obtain ⟨a1, a2, a3, a4, a5⟩ := h.st e he
    rw [Int.toNat_natCast, stakeD_of a1 a2, decide_eq_true a3, decide_eq_true a4, decide_eq_true a5]
    rfl
  · obtain ⟨a1, a2, a3⟩ := h.bh d hd
    rw [cntB_sum many 4 (dsD d) (.inr ⟨3, rfl⟩), cntB_of (k := 4) (t := 0) a1 a2 (by omega)]
    rfl
/-! ### laid out -/
theorem laymap {α : Type} {f : α → PyData} : ∀ {l : List α}, (∀ x ∈ l, (f x).canLay0 = true) → PyData.canLayAll0 (l.map f) = true
  | [], _ => rfl
  | x :: r, h => by
    show ((f x).canLay0 && PyData.canLayAll0 (r.map f)) = true
    rw [h x (List.mem_cons_self ..), laymap fun y hy => h y (List.mem_cons_of_mem _ hy)]
    rfl
theorem depmap {α : Type} {f : α → PyData} {k : Nat} : ∀ {l : List α}, (∀ x ∈ l, (f x).depth ≤ k) → PyData.depthAll (l.map f) ≤ k
  | [], _ => Nat.zero_le _
  | x :: r, h => by
    have a := h x (List.mem_cons_self ..)
    have b := depmap (l := r) fun y hy => h y (List.mem_cons_of_mem _ hy)
    show max (f x).depth (PyData.depthAll (r.map f)) ≤ k
    omega
theorem layds : ∀ d : Ds, PyData.canLayAll0 (dsD d) = true
  | .nil => rfl
  | .op o i x r => by
    show (((PyData.canLay0 (.str (dn o))) && (true && (true && true))) && PyData.canLayAll0 (dsD r)) = true
    rw [layds r]
    cases o <;> decide +kernel
  | .when i c a b r => by
    show ((PyData.canLay0 (.str "when") && (true && (true && (PyData.canLayAll0 (dsD a) && (PyData.canLayAll0 (dsD b) && true))))) && PyData.canLayAll0 (dsD r)) = true
    rw [layds a, layds b, layds r]
    decide +kernel
theorem depds : ∀ d : Ds, PyData.depthAll (dsD d) ≤ 2 * d.dep
  | .nil => Nat.zero_le _
  | .op o i x r => by
    have := depds r
    show max (max 0 (max 0 (max 0 0)) + 1) (PyData.depthAll (dsD r)) ≤ 2 * max 1 r.dep
    omega
  | .when i c a b r => by
    have h1 := depds a
    have h2 := depds b
    have h3 := depds r
    show max (max 0 (max 0 (max 0 (max (PyData.depthAll (dsD a) + 1) (max (PyData.depthAll (dsD b) + 1) 0)))) + 1) (PyData.depthAll (dsD r)) ≤ 2 * max (max a.dep b.dep + 1) r.dep
    omega
theorem shaped_db {many : Nat} {D : Dbt} (hn : PyData.canLay0 (.str D.name) = true) (h : DbFit many D) : SeqAt.shaped (dbD D) = true := by
  have h2 : PyData.canLayAll0 (D.begins.map PyData.int) = true := laymap fun _ _ => rfl
  have h3 : PyData.canLayAll0 (D.stakes.map toD) = true := laymap fun e _ => lay_ex e
  have h4 : PyData.canLayAll0 (D.behinds.map fun d => .tuple (dsD d)) = true := laymap fun d _ => layds d
  have d2 : PyData.depthAll (D.begins.map PyData.int) ≤ 0 := depmap fun _ _ => Nat.le_refl _
  have d3 : PyData.depthAll (D.stakes.map toD) ≤ 8 := depmap fun e he => Nat.le_trans (depth_ex e) (h.st e he).2.1
  have d4 : PyData.depthAll (D.behinds.map fun d => .tuple (dsD d)) ≤ 9 := depmap fun d hd => by
    have a := depds d
    have b := (h.bh d hd).2.1
    show PyData.depthAll (dsD d) + 1 ≤ 9
    omega
  show ((PyData.canLay0 (.str D.name) && (true && (PyData.canLayAll0 (D.begins.map PyData.int) && (PyData.canLayAll0 (D.stakes.map toD) && (PyData.canLayAll0 (D.behinds.map fun d => .tuple (dsD d)) && true))))) && decide (max 0 (max 0 (max (PyData.depthAll (D.begins.map PyData.int) + 1) (max (PyData.depthAll (D.stakes.map toD) + 1) (max (PyData.depthAll (D.behinds.map fun d => .tuple (dsD d)) + 1) 0)))) + 1 ≤ 64)) = true
  rw [hn, h2, h3, h4, decide_eq_true (by omega)]
  rfl
/-! ### shares told, rows of ints shown -/
theorem shw_ints : ∀ {ns : List Int}, (∀ x ∈ ns, x.natAbs < 2 ^ 600) → ShwAll (ns.map PyData.int) (602 * ns.length) 0
  | [], _ => ShwAll.nil
  | n :: r, h => by
    have h1 := Shw.int (i := n) (h n (List.mem_cons_self ..))
    have h2 := shw_ints (ns := r) fun x hx => h x (List.mem_cons_of_mem _ hx)
    have h3 := ShwAll.cons h1 h2 (Nat.le_refl 0) (Nat.le_refl 0)
    refine ⟨h3.sh, h3.lf, Nat.le_trans h3.wt ?_, h3.dp⟩
    rw [List.length_cons]
    omega
end NG

namespace NG
open PySem PySem.Spec PyProof.Rows L2
/-! ### calls by keywords alone, in the parameters' own order -/
structure CalKO (P : Program) (w : World) (K : PySem.W.Frag) (mg : Str → Option Value) (base : Heap) (k : Nat) (x : Str) (ks : List Str) (sp : Sp) : Prop where
  ex : ∃ (f : Addr) (fd : FuncData), FnG P w K mg base k f fd ks sp ∧ mg x = some (.ref f) ∧ PySem.W.keepIn K (.ref f) = true ∧ ∀ (s : Shared) (ws : List Value), ws.length = ks.length → BindsTo s fd ⟨[], ks.zip ws⟩ (ks.zip ws)
section
variable {X : Cx} {k j : Nat} {x : Str} {ks : List Str} {sp : Sp} {p pos : Pos} {kws : List Keyword} {tk : TA}
theorem pe_kwO (c : CalKO X.prog X.w X.K X.mg X.base k x ks sp) (hgd : X.A.guards = some []) (hr : Room j X.A) (hk : k ≤ j) (hg : Gl X x) (hkw : PK X kws tk) (hall : (backToKw pos (keywordEach kws X.env)).all (·.1.isSome) = true := by rfl) (hks : (backToKw pos (keywordEach kws X.env)).filterMap (·.1) = ks := by rfl)
    (hdb : (x == ("__debug__" : Str)) = false := by decide) (hpl : ((backTo pos (starEach [] X.env)).any (·.1) || (backToKw pos (keywordEach kws X.env)).any (·.1.isNone)) = false := by rfl) :
    PE X (.Call (.Name x p) [] kws pos) (fun σ H Q => tk σ H fun zs H2 => zs.length = ks.length ∧ sp zs H2 Q E0) := by
  obtain ⟨f, fd, F, hm, kp, b⟩ := c.ex
  refine ⟨fun pins s σ H Q I h => wpAny_Call_Name_kw (ld_glob I hg hm ?_ hdb)⟩
  refine PySem.W.callWith_KW0 (h₀ := X.base) I.ok.mod.kin kp hall (thn (hkw.run pos pins s σ H _ I h) fun ws s2 ⟨zs, H2, I2, rz, hl, q⟩ => ⟨I2.kIn, ?_⟩) hpl
  rw [hks]
  refine wpAny_call (codeAny_mono (F.run X.A X.stack s2 H2 ⟨[], ks.zip ws⟩ ws zs Q hgd (hr.mono hk) I2.env0 (b s2 ws (by rw [← rz.length]; exact hl)) rz q) fun res s' hq => ?_)
  match res, hq with
  | .ok (.ret u), hq => exact I2.after hq
  | .ok .next, hq => exact False.elim hq
  | .ok .brk, hq => exact False.elim hq
  | .ok .cont, hq => exact False.elim hq
  | .error e, hq => exact False.elim hq
end
/-! ### too deep -/
theorem addE_zero : ∀ {l : List Nat} {t : Nat}, 0 ∈ l → addE t l = 0
  | [], _, h => by cases h
  | x :: l, t, h => by
    unfold addE
    by_cases c : x = 0
    · rw [if_pos c]
    · rw [if_neg c]
      refine addE_zero ?_
      rcases List.mem_cons.mp h with e | h
      · exact absurd e.symm c
      · exact h
theorem cnt_part {many : Int} {k : Nat} {w : We} {ds : List PyData} {x : PyData} (hx : x ∈ partsD (wsh w) ds) (h0 : cntE many k x = 0) : cntE many (k + 1) (.tuple (.str (wen w) :: ds)) = 0 := by
  rw [cntE_eq]
  split
  · exact addE_zero (List.mem_map.mpr ⟨x, hx, h0⟩)
  · rfl
theorem cnt_deep {many : Nat} : ∀ {k : Nat} {e : Ex}, ExOk many e → k < e.dep → cntE many k (toD e) = 0
  | 0, e, _, _ => by unfold cntE; rfl
  | k + 1, e, h, hd => by
    have key : ∃ y ∈ e.kids, k < y.dep := by
      cases e with
      | fig => exact absurd hd (by show ¬ (k + 1 < 1); omega)
      | reg => exact absurd hd (by show ¬ (k + 1 < 1); omega)
      | share => exact absurd hd (by show ¬ (k + 1 < 1); omega)
      | two w a b =>
        have hd : k + 1 < max a.dep b.dep + 1 := hd
        by_cases c : k < a.dep
        · exact ⟨a, by simp [Ex.kids], c⟩
        · exact ⟨b, by simp [Ex.kids], by omega⟩
      | times f a =>
        have hd : k + 1 < a.dep + 1 := hd
        exact ⟨a, by simp [Ex.kids], by omega⟩
      | «by» f a =>
        have hd : k + 1 < a.dep + 1 := hd
        exact ⟨a, by simp [Ex.kids], by omega⟩
      | when i c a b =>
        have hd : k + 1 < max a.dep b.dep + 1 := hd
        by_cases c : k < a.dep
        · exact ⟨a, by simp [Ex.kids], c⟩
        · exact ⟨b, by simp [Ex.kids], by omega⟩
      | whr i c a b =>
        have hd : k + 1 < max a.dep b.dep + 1 := hd
        by_cases c : k < a.dep
        · exact ⟨a, by simp [Ex.kids], c⟩
        · exact ⟨b, by simp [Ex.kids], by omega⟩
    obtain ⟨y, hy, hk⟩ := key
    rw [toD_eq]
    exact cnt_part (x := toD y) (by rw [itE_parts]; exact List.mem_map.mpr ⟨y, hy, rfl⟩) (cnt_deep (kids_ok e y h hy) hk)
/-! ### one thing sunk a level deeper -/
inductive Snk (many : Nat) (d : PyData) : PyData → Prop
  | times (i : Nat) (h : i < many) : Snk many d (.tuple [.str "times", .int (-(i : Int)), d])
  | «by» (i : Nat) (h : i < many) : Snk many d (.tuple [.str "by", .int (i : Int), d])
  | two1 (w : W4) (l : Ex) (h : ExOk many l) (hl : l.dep ≤ 1) : Snk many d (.tuple [.str (wn w), toD l, d])
  | two2 (w : W4) (l : Ex) (h : ExOk many l) (hl : l.dep ≤ 1) : Snk many d (.tuple [.str (wn w), d, toD l])
  | when (i : Nat) (c : Int) (l : Ex) (hi : i < many) (h1 : -1000 ≤ c) (h2 : c ≤ 1000) (h : ExOk many l) (hl : l.dep ≤ 1) : Snk many d (.tuple [.str "when", .int (i : Int), .int c, toD l, d])
  | whr (i : Nat) (c : Int) (l : Ex) (hi : i < many) (h1 : 1 ≤ c) (h2 : c ≤ 1000) (h : ExOk many l) (hl : l.dep ≤ 1) : Snk many d (.tuple [.str "where", .int (i : Int), .int c, d, toD l])
theorem leaf_size {l : Ex} (h : l.dep ≤ 1) : l.size = 1 ∧ l.dep = 1 := by
  cases l with
  | fig => exact ⟨rfl, rfl⟩
  | reg => exact ⟨rfl, rfl⟩
  | share => exact ⟨rfl, rfl⟩
  | two w a b => exact absurd h (by have := dep_pos' a; show ¬ (max a.dep b.dep + 1 ≤ 1); omega)
  | times f a => exact absurd h (by have := dep_pos' a; show ¬ (a.dep + 1 ≤ 1); omega)
  | «by» f a => exact absurd h (by have := dep_pos' a; show ¬ (a.dep + 1 ≤ 1); omega)
  | when i c a b => exact absurd h (by have := dep_pos' a; show ¬ (max a.dep b.dep + 1 ≤ 1); omega)
  | whr i c a b => exact absurd h (by have := dep_pos' a; show ¬ (max a.dep b.dep + 1 ≤ 1); omega)
theorem snk_good {many : Nat} {e : Ex} {d2 : PyData} (hm : many ≤ 3) (h : Snk many (toD e) d2) (ho : ExOk many e) : ∃ e2, d2 = toD e2 ∧ ExOk many e2 ∧ e2.dep = e.dep + 1 ∧ e2.size ≤ e.size + 2 := by
  have hp := dep_pos' e
  cases h with
  | times i h => exact ⟨.times (-(i : Int)) e, rfl, ⟨⟨by omega, by omega⟩, ho⟩, rfl, by show 1 + e.size ≤ _; omega⟩
  | «by» i h => exact ⟨.by i e, rfl, ⟨by omega, ho⟩, rfl, by show 1 + e.size ≤ _; omega⟩
  | two1 w l h hl =>
    obtain ⟨a1, a2⟩ := leaf_size hl
    exact ⟨.two w l e, rfl, ⟨h, ho⟩, by show max l.dep e.dep + 1 = _; omega, by show 1 + l.size + e.size ≤ _; omega⟩
  | two2 w l h hl =>
    obtain ⟨a1, a2⟩ := leaf_size hl
    exact ⟨.two w e l, rfl, ⟨ho, h⟩, by show max e.dep l.dep + 1 = _; omega, by show 1 + e.size + l.size ≤ _; omega⟩
  | when i c l hi h1 h2 h hl =>
    obtain ⟨a1, a2⟩ := leaf_size hl
    exact ⟨.when i c l e, rfl, ⟨by omega, ⟨h1, h2⟩, h, ho⟩, by show max l.dep e.dep + 1 = _; omega, by show 1 + l.size + e.size ≤ _; omega⟩
  | whr i c l hi h1 h2 h hl =>
    obtain ⟨a1, a2⟩ := leaf_size hl
    exact ⟨.whr i c e l, rfl, ⟨hi, ⟨h1, h2⟩, ho, h⟩, by show max e.dep l.dep + 1 = _; omega, by show 1 + e.size + l.size ≤ _; omega⟩
theorem snk_word {many : Nat} {d d2 : PyData} (h : Snk many d d2) : ∃ (w : We) (ds : List PyData), d2 = .tuple (.str (wen w) :: ds) ∧ d ∈ partsD (wsh w) ds ∧ ∀ x ∈ partsD (wsh w) ds, x = d ∨ ∃ l, x = toD l ∧ ExOk many l := by
  cases h with
  | times i h => exact ⟨.times, _, rfl, List.mem_cons_self .., fun x hx => .inl (List.mem_singleton.mp hx)⟩
  | «by» i h => exact ⟨.by, _, rfl, List.mem_cons_self .., fun x hx => .inl (List.mem_singleton.mp hx)⟩
  | two1 w l h hl =>
    refine ⟨.two w, [toD l, d], rfl, by cases w <;> exact List.mem_cons_of_mem _ (List.mem_cons_self ..), fun x hx => ?_⟩
    have hx : x ∈ [toD l, d] := by cases w <;> exact hx
    rcases List.mem_cons.mp hx with e | hx
    · exact .inr ⟨l, e, h⟩
    · exact .inl (List.mem_singleton.mp hx)
  | two2 w l h hl =>
    refine ⟨.two w, [d, toD l], rfl, by cases w <;> exact List.mem_cons_self .., fun x hx => ?_⟩
    have hx : x ∈ [d, toD l] := by cases w <;> exact hx
    rcases List.mem_cons.mp hx with e | hx
    · exact .inl e
    · exact .inr ⟨l, List.mem_singleton.mp hx, h⟩
  | when i c l hi h1 h2 h hl =>
    refine ⟨.when, [.int (i : Int), .int c, toD l, d], rfl, List.mem_cons_of_mem _ (List.mem_cons_self ..), fun x hx => ?_⟩
    have hx : x ∈ [toD l, d] := hx
    rcases List.mem_cons.mp hx with e | hx
    · exact .inr ⟨l, e, h⟩
    · exact .inl (List.mem_singleton.mp hx)
  | whr i c l hi h1 h2 h hl =>
    refine ⟨.whr, [.int (i : Int), .int c, d, toD l], rfl, List.mem_cons_self .., fun x hx => ?_⟩
    have hx : x ∈ [d, toD l] := hx
    rcases List.mem_cons.mp hx with e | hx
    · exact .inl e
    · exact .inr ⟨l, List.mem_singleton.mp hx, h⟩
theorem snk_bad {many : Nat} {d d2 : PyData} (h : Snk many d d2) (hb : ∀ k, cntE many k d = 0) : ∀ k, cntE many k d2 = 0 := by
  obtain ⟨w, ds, rfl, hd, _⟩ := snk_word h
  intro k
  cases k with
  | zero => unfold cntE; rfl
  | succ k => exact cnt_part hd (hb k)
theorem snk_wd {many : Nat} {d d2 : PyData} (h : Snk many d d2) (hw : ∀ k, wdE many k d) : ∀ k, wdE many k d2 := by
  obtain ⟨w, ds, rfl, _, hx⟩ := snk_word h
  intro k
  cases k with
  | zero => exact ⟨w, ds, rfl⟩
  | succ k =>
    refine ⟨w, ds, rfl, fun _ x hxm => ?_⟩
    rcases hx x hxm with e | ⟨l, e, ho⟩
    · rw [e]; exact hw k
    · rw [e]; exact wdE_of ho
/-- sunk so many times -/
inductive Snks (many : Nat) (d : PyData) : Nat → PyData → Prop
  | nil : Snks many d 0 d
  | step {n : Nat} {d1 d2 : PyData} (h : Snks many d n d1) (s : Snk many d1 d2) : Snks many d (n + 1) d2
theorem snks_good {many : Nat} {e : Ex} {n : Nat} {d2 : PyData} (hm : many ≤ 3) (h : Snks many (toD e) n d2) (ho : ExOk many e) : ∃ e2, d2 = toD e2 ∧ ExOk many e2 ∧ e2.dep = e.dep + n ∧ e2.size ≤ e.size + 2 * n := by
  induction h with
  | nil => exact ⟨e, rfl, ho, rfl, by omega⟩
  | step h s ih =>
    obtain ⟨e1, rfl, o1, p1, q1⟩ := ih
    obtain ⟨e2, rfl, o2, p2, q2⟩ := snk_good hm s o1
    exact ⟨e2, rfl, o2, by omega, by omega⟩
theorem snks_bad {many : Nat} {d : PyData} {n : Nat} {d2 : PyData} (h : Snks many d n d2) (hb : ∀ k, cntE many k d = 0) : ∀ k, cntE many k d2 = 0 := by
  induction h with
  | nil => exact hb
  | step h s ih => exact snk_bad s ih
theorem snks_wd {many : Nat} {d : PyData} {n : Nat} {d2 : PyData} (h : Snks many d n d2) (hw : ∀ k, wdE many k d) : ∀ k, wdE many k d2 := by
  induction h with
  | nil => exact hw
  | step h s ih => exact snk_wd s ih
/-! ### things of tuples alone -/
mutual
def tpo : PyData → Bool
  | .tuple ds => tpoAll ds
  | .int _ => true
  | .str _ => true
  | _ => false
def tpoAll : List PyData → Bool
  | [] => true
  | d :: ds => tpo d && tpoAll ds
end
mutual
theorem dp_imp {K : PySem.W.Frag} {H H' : Hp} (h : ∀ p xs, SqT K H p xs → SqT K H' p xs) : ∀ {d : PyData} {v : V}, tpo d = true → Dp K H v d → Dp K H' v d
  | .int _, _, _, x => by cases x; exact .int _
  | .str _, _, _, x => by cases x; exact .str _
  | .tuple ds, _, ht, x => by
    cases x with
    | tup q hA => exact .tup (h _ _ q) (dpall_imp h (by unfold tpo at ht; exact ht) hA)
  | .none, _, ht, _ => by unfold tpo at ht; cases ht
  | .bool _, _, ht, _ => by unfold tpo at ht; cases ht
  | .list _, _, ht, _ => by unfold tpo at ht; cases ht
  | .dict _, _, ht, _ => by unfold tpo at ht; cases ht
theorem dpall_imp {K : PySem.W.Frag} {H H' : Hp} (h : ∀ p xs, SqT K H p xs → SqT K H' p xs) : ∀ {ds : List PyData} {vs : List V}, tpoAll ds = true → DpAll K H vs ds → DpAll K H' vs ds
  | [], _, _, x => by cases x; exact .nil
  | d :: ds, _, ht, x => by
    unfold tpoAll at ht
    rw [Bool.and_eq_true] at ht
    cases x with
    | cons h1 h2 => exact .cons (dp_imp h ht.1 h1) (dpall_imp h ht.2 h2)
end
theorem dp_but {K : PySem.W.Frag} {H H' : Hp} {a : Addr} {n : Nat} (b : But a H H') (hh : HandAt H a n) {d : PyData} {v : V} (t : tpo d = true) (x : Dp K H v d) : Dp K H' v d := dp_imp (fun _ _ q => b.sq hh q) t x
theorem tpo_ex : ∀ e : Ex, tpo (toD e) = true
  | .fig _ => rfl
  | .reg _ => rfl
  | .share _ => rfl
  | .two w a b => by show (true && (tpo (toD a) && (tpo (toD b) && true))) = true; rw [tpo_ex a, tpo_ex b]; rfl
  | .times f a => by show (true && (true && (tpo (toD a) && true))) = true; rw [tpo_ex a]; rfl
  | .by i a => by show (true && (true && (tpo (toD a) && true))) = true; rw [tpo_ex a]; rfl
  | .when i c a b => by show (true && (true && (true && (tpo (toD a) && (tpo (toD b) && true))))) = true; rw [tpo_ex a, tpo_ex b]; rfl
  | .whr i c a b => by show (true && (true && (true && (tpo (toD a) && (tpo (toD b) && true))))) = true; rw [tpo_ex a, tpo_ex b]; rfl
theorem snk_tpo {many : Nat} {d d2 : PyData} (h : Snk many d d2) (t : tpo d = true) : tpo d2 = true := by
  cases h with
  | times i h => show (true && (true && (tpo d && true))) = true; rw [t]; rfl
  | «by» i h => show (true && (true && (tpo d && true))) = true; rw [t]; rfl
  | two1 w l h hl => show (true && (tpo (toD l) && (tpo d && true))) = true; rw [t, tpo_ex l]; rfl
  | two2 w l h hl => show (true && (tpo d && (tpo (toD l) && true))) = true; rw [t, tpo_ex l]; rfl
  | when i c l hi h1 h2 h hl => show (true && (true && (true && (tpo (toD l) && (tpo d && true))))) = true; rw [t, tpo_ex l]; rfl
  | whr i c l hi h1 h2 h hl => show (true && (true && (true && (tpo d && (tpo (toD l) && true))))) = true; rw [t, tpo_ex l]; rfl
theorem snks_tpo {many : Nat} {d : PyData} {n : Nat} {d2 : PyData} (h : Snks many d n d2) (t : tpo d = true) : tpo d2 = true := by
  induction h with
  | nil => exact t
  | step h s ih => exact snk_tpo s ih
/-! ### what is_expression says of them -/
theorem isEx_of {many : Nat} {e : Ex} (h : ExOk many e) : isEx many (toD e) = decide (e.dep ≤ 8 ∧ e.size ≤ 40) := by
  unfold isEx
  by_cases c : e.dep ≤ 8
  · rw [cntE_of h c]
    have := size_pos e
    by_cases c2 : e.size ≤ 40
    · rw [decide_eq_true (show 1 ≤ e.size by omega), decide_eq_true c2, decide_eq_true ⟨c, c2⟩]
      rfl
    · rw [decide_eq_false c2, decide_eq_false (show ¬ (e.dep ≤ 8 ∧ e.size ≤ 40) from fun z => c2 z.2), Bool.and_false]
  · rw [cnt_deep h (by omega), decide_eq_false (show ¬ (e.dep ≤ 8 ∧ e.size ≤ 40) from fun z => c z.1)]
    rfl
theorem isEx_bad {many : Nat} {d : PyData} (h : ∀ k, cntE many k d = 0) : isEx many d = false := by
  unfold isEx
  rw [h 8]
  rfl
end NG

namespace NG
open PySem PySem.Spec PyProof.Rows L2
def spLaw (K : PySem.W.Frag) : Sp := fun vs H Q _ => ∃ (a : Addr) (ns : List Int), vs = [.ref a] ∧ SqL K H a (ns.map V.int) ∧ ns.length ≤ 63 ∧ ∀ H', Q (.bl true) H'
def spRightX (K : PySem.W.Frag) : Sp := fun vs H Q _ => ∃ (v : V) (d : PyData), vs = [v] ∧ Dq K H v d ∧ Tm 3000 40000 20 d ∧ ∀ H', Same H H' → Q (.bl true) H'
theorem none_back {H H' : Hp} {p : Addr} (s : Same H H') (h : H' p = none) : H p = none := by
  cases e : H p with
  | none => rfl
  | some o => rw [s _ _ e] at h; cases h
theorem tm_ex {many : Nat} (hm : many ≤ 3) : ∀ {e : Ex}, ExOk many e → Tm 2000 (300 * e.size) e.dep (toD e)
  | .fig c, h => by
    have h : -1000 ≤ c ∧ c ≤ 1000 := h
    exact ((Tms.cons ((Tm.str (B := 2000) (x := "fig") (by decide) (by decide)).mono (D' := 0) (Nat.le_refl _) (Nat.le_refl _) (Nat.le_refl _)) (Tms.cons (Tm.int (i := c) (by omega) (by decide)) (.nil (W := 0)))).tup).mono (Nat.le_refl _) (by show _ ≤ 300 * 1; omega) (Nat.le_refl _)
  | .reg i, h => by
    have h : i < 4 := h
    exact ((Tms.cons ((Tm.str (B := 2000) (x := "reg") (by decide) (by decide)).mono (D' := 0) (Nat.le_refl _) (Nat.le_refl _) (Nat.le_refl _)) (Tms.cons (Tm.int (i := (i : Int)) (by omega) (by decide)) (.nil (W := 0)))).tup).mono (Nat.le_refl _) (by show _ ≤ 300 * 1; omega) (Nat.le_refl _)
  | .share i, h => by
    have h : i < many := h
    exact ((Tms.cons ((Tm.str (B := 2000) (x := "share") (by decide) (by decide)).mono (D' := 0) (Nat.le_refl _) (Nat.le_refl _) (Nat.le_refl _)) (Tms.cons (Tm.int (i := (i : Int)) (by omega) (by decide)) (.nil (W := 0)))).tup).mono (Nat.le_refl _) (by show _ ≤ 300 * 1; omega) (Nat.le_refl _)
  | .two o x y, h => by
    have hx := tm_ex hm (e := x) h.1
    have hy := tm_ex hm (e := y) h.2
    have hs : Tm 2000 10 0 (.str (wn o)) := by cases o <;> exact Tm.str (by decide) (by decide)
    exact ((Tms.cons (hs.mono (D' := max x.dep y.dep) (Nat.le_refl _) (Nat.le_refl _) (Nat.zero_le _)) (Tms.cons (hx.mono (D' := max x.dep y.dep) (Nat.le_refl _) (Nat.le_refl _) (by omega)) (Tms.cons (hy.mono (D' := max x.dep y.dep) (Nat.le_refl _) (Nat.le_refl _) (by omega)) (.nil (W := 0))))).tup).mono (Nat.le_refl _) (by show _ ≤ 300 * (1 + x.size + y.size); omega) (Nat.le_refl _)
  | .times f x, h => by
    have h1 : -9 ≤ f ∧ f ≤ 9 := h.1
    have hx := tm_ex hm (e := x) h.2
    exact ((Tms.cons ((Tm.str (B := 2000) (x := "times") (by decide) (by decide)).mono (D' := x.dep) (Nat.le_refl _) (Nat.le_refl _) (Nat.zero_le _)) (Tms.cons ((Tm.int (B := 2000) (i := f) (by omega) (by decide)).mono (D' := x.dep) (Nat.le_refl _) (Nat.le_refl _) (Nat.zero_le _)) (Tms.cons hx (.nil (W := 0))))).tup).mono (Nat.le_refl _) (by show _ ≤ 300 * (1 + x.size); omega) (Nat.le_refl _)
  | .by i x, h => by
    have h1 : i < 4 := h.1
    have hx := tm_ex hm (e := x) h.2
    exact ((Tms.cons ((Tm.str (B := 2000) (x := "by") (by decide) (by decide)).mono (D' := x.dep) (Nat.le_refl _) (Nat.le_refl _) (Nat.zero_le _)) (Tms.cons ((Tm.int (B := 2000) (i := (i : Int)) (by omega) (by decide)).mono (D' := x.dep) (Nat.le_refl _) (Nat.le_refl _) (Nat.zero_le _)) (Tms.cons hx (.nil (W := 0))))).tup).mono (Nat.le_refl _) (by show _ ≤ 300 * (1 + x.size); omega) (Nat.le_refl _)
  | .when i c x y, h => by
    have h1 : i < 4 := h.1
    have h2 : -1000 ≤ c ∧ c ≤ 1000 := h.2.1
    have hx := tm_ex hm (e := x) h.2.2.1
    have hy := tm_ex hm (e := y) h.2.2.2
    exact ((Tms.cons ((Tm.str (B := 2000) (x := "when") (by decide) (by decide)).mono (D' := max x.dep y.dep) (Nat.le_refl _) (Nat.le_refl _) (Nat.zero_le _)) (Tms.cons ((Tm.int (B := 2000) (i := (i : Int)) (by omega) (by decide)).mono (D' := max x.dep y.dep) (Nat.le_refl _) (Nat.le_refl _) (Nat.zero_le _)) (Tms.cons ((Tm.int (B := 2000) (i := c) (by omega) (by decide)).mono (D' := max x.dep y.dep) (Nat.le_refl _) (Nat.le_refl _) (Nat.zero_le _)) (Tms.cons (hx.mono (D' := max x.dep y.dep) (Nat.le_refl _) (Nat.le_refl _) (by omega)) (Tms.cons (hy.mono (D' := max x.dep y.dep) (Nat.le_refl _) (Nat.le_refl _) (by omega)) (.nil (W := 0))))))).tup).mono (Nat.le_refl _) (by show _ ≤ 300 * (1 + x.size + y.size); omega) (Nat.le_refl _)
  | .whr j c x y, h => by
    have h1 : j < many := h.1
    have h2 : 1 ≤ c ∧ c ≤ 1000 := h.2.1
    have hx := tm_ex hm (e := x) h.2.2.1
    have hy := tm_ex hm (e := y) h.2.2.2
    exact ((Tms.cons ((Tm.str (B := 2000) (x := "where") (by decide) (by decide)).mono (D' := max x.dep y.dep) (Nat.le_refl _) (Nat.le_refl _) (Nat.zero_le _)) (Tms.cons ((Tm.int (B := 2000) (i := (j : Int)) (by omega) (by decide)).mono (D' := max x.dep y.dep) (Nat.le_refl _) (Nat.le_refl _) (Nat.zero_le _)) (Tms.cons ((Tm.int (B := 2000) (i := c) (by omega) (by decide)).mono (D' := max x.dep y.dep) (Nat.le_refl _) (Nat.le_refl _) (Nat.zero_le _)) (Tms.cons (hx.mono (D' := max x.dep y.dep) (Nat.le_refl _) (Nat.le_refl _) (by omega)) (Tms.cons (hy.mono (D' := max x.dep y.dep) (Nat.le_refl _) (Nat.le_refl _) (by omega)) (.nil (W := 0))))))).tup).mono (Nat.le_refl _) (by show _ ≤ 300 * (1 + x.size + y.size); omega) (Nat.le_refl _)
theorem size_dep : ∀ e : Ex, e.size < 2 ^ e.dep
  | .fig _ => by show 1 < 2; decide
  | .reg _ => by show 1 < 2; decide
  | .share _ => by show 1 < 2; decide
  | .two _ a b => by
    have h1 := size_dep a
    have h2 := size_dep b
    have p1 := Nat.pow_le_pow_right (n := 2) (by decide) (Nat.le_max_left a.dep b.dep)
    have p2 := Nat.pow_le_pow_right (n := 2) (by decide) (Nat.le_max_right a.dep b.dep)
    show 1 + a.size + b.size < 2 ^ (max a.dep b.dep + 1)
    rw [Nat.pow_succ]
    omega
  | .times _ a => by
    have h1 := size_dep a
    show 1 + a.size < 2 ^ (a.dep + 1)
    have h0 : 0 < 2 ^ a.dep := Nat.pow_pos (by decide)
    rw [Nat.pow_succ]
    omega
  | .by _ a => by
    have h1 := size_dep a
    show 1 + a.size < 2 ^ (a.dep + 1)
    have h0 : 0 < 2 ^ a.dep := Nat.pow_pos (by decide)
    rw [Nat.pow_succ]
    omega
  | .when _ _ a b => by
    have h1 := size_dep a
    have h2 := size_dep b
    have p1 := Nat.pow_le_pow_right (n := 2) (by decide) (Nat.le_max_left a.dep b.dep)
    have p2 := Nat.pow_le_pow_right (n := 2) (by decide) (Nat.le_max_right a.dep b.dep)
    show 1 + a.size + b.size < 2 ^ (max a.dep b.dep + 1)
    rw [Nat.pow_succ]
    omega
  | .whr _ _ a b => by
    have h1 := size_dep a
    have h2 := size_dep b
    have p1 := Nat.pow_le_pow_right (n := 2) (by decide) (Nat.le_max_left a.dep b.dep)
    have p2 := Nat.pow_le_pow_right (n := 2) (by decide) (Nat.le_max_right a.dep b.dep)
    show 1 + a.size + b.size < 2 ^ (max a.dep b.dep + 1)
    rw [Nat.pow_succ]
    omega
theorem exok_three {many : Nat} (hm : many ≤ 3) : ∀ {e : Ex}, ExOk many e → ExOk 3 e
  | .fig _, h => h
  | .reg _, h => h
  | .share i, h => by have h : i < many := h; show i < 3; omega
  | .two _ _ _, h => ⟨exok_three hm h.1, exok_three hm h.2⟩
  | .times _ _, h => ⟨h.1, exok_three hm h.2⟩
  | .by _ _, h => ⟨h.1, exok_three hm h.2⟩
  | .when _ _ _ _, h => ⟨h.1, h.2.1, exok_three hm h.2.2.1, exok_three hm h.2.2.2⟩
  | .whr j _ _ _, h => ⟨by have h1 : j < many := h.1; show j < 3; omega, h.2.1, exok_three hm h.2.2.1, exok_three hm h.2.2.2⟩
section
variable {P : Program} {w : World} {K : PySem.W.Frag} {mg : Str → Option Value} {base : Heap}
theorem ok_rightX {f : Addr} {fd : FuncData} (F : Fun K "_law_right" "_law_right" s_L_right f fd) (gF : mg "_law_right" = some (.ref f)) (b : Binds K fd ["_law_item"] []) (B : Bl mg) (c_is_expression : Cal P w K mg base 16 "is_expression" (spIsEx K)) (k_is_expression : CalK P w K mg base 16 "is_expression" ["many", "thing"] (spIsEx K)) (c_L_is : Cal P w K mg base 12 "_law_is" (spLIs K)) : CalG P w K mg base 17 "_law_right" (spRightX K) := by
  refine ⟨f, fd, _, fnG F sc_L_right (fun vs H Q E h => ?_) (fun cdv A outer s H vs Q hg hr h => ?_), gF, F.kp, b⟩
  · obtain ⟨_, _, rfl, _⟩ := h
    rfl
  · obtain ⟨v, d, rfl, hd, ht, q⟩ := h
    refine ⟨_, (pss_cons (ps_set (i := 1) sc_L_right.nd rfl (.inl rfl) (pe_callB (cr_reprQ hg hr.units) (by rfl) B.repr (by decide +kernel) (pa_cons (pv 0) pa_nil))) (pss_cons (ps_for PassesOwn.never rfl (pi_tup (pe_tup (pa_cons pe_int (pa_cons pe_int pa_nil)))) (pg_name (i := 2) sc_L_right.nd rfl (.inl rfl)) (pss_cons (ps_set (i := 3) sc_L_right.nd rfl (.inl rfl) (pe_lst (pa_cons (pe_c c_is_expression hr (by omega) (by rfl) (pa_cons (pv 0) (pa_cons (pv 2) pa_nil))) (pa_cons (pe_kw k_is_expression hg hr (by omega) (by rfl) (pk_cons (pv 2) (pk_cons (pv 0) pk_nil))) pa_nil)))) (pss_one (ps_if (pt_cmpR op_ne (pe_callB (cr_reprQ hg hr.units) (by rfl) B.repr (by decide +kernel) (pa_cons (pv 3) pa_nil)) (pe_callB (cr_reprQ hg hr.units) (by rfl) B.repr (by decide +kernel) (pa_cons (pe_op op_rep (pe_lst (pa_cons (pe_c c_L_is hr (by omega) (by rfl) (pa_cons (pv 0) (pa_cons (pv 2) pa_nil))) pa_nil)) pe_int) pa_nil)) (nomark _)) (pss_one (ps_ret pe_bl)) pss_nil)))) (pss_one (ps_ret (pe_cmpR op_eq (pe_callB (cr_reprQ hg hr.units) (by rfl) B.repr (by decide +kernel) (pa_cons (pv 0) pa_nil)) (pv 1) (nomark _)))))), ?_⟩
    have hsd := ht.shh (by decide)
    refine ⟨v, rfl, v, d, rfl, hd, hsd.sh, Nat.le_trans hsd.dp (by decide), hsd.fits (by decide), ?_⟩
    refine ⟨(by show 2 ≤ sizeLine; decide), fun tt nt => ?_⟩
    have htt : (upd H tt (.tup [.int 2, .int 3])) tt = some (.tup [.int 2, .int 3]) := upd_same
    have s1 : Same H (upd H tt (.tup [.int 2, .int 3])) := same_new nt
    generalize upd H tt (.tup [.int 2, .int 3]) = H1 at htt s1 ⊢
    have hd1 := dq_same s1 hd
    refine ⟨tt, rfl, ⟨_, SqT.of htt⟩, for_tup (xs := [.int 2, .int 3]) (fun m σ H' => ∃ y2 y3, σ = [some v, some (.str d.shown), y2, y3] ∧ Same H1 H') ⟨_, _, rfl, Same.refl _⟩ (fun m σ H' _ h => by obtain ⟨_, _, _, s⟩ := h; exact SqT.of (s _ _ htt)) ?_ ?_⟩
    · rintro m x σ H2 hx ⟨y2, y3, rfl, s2⟩
      obtain ⟨mn, rfl⟩ : ∃ mn : Int, x = .int mn := by
        have := List.mem_of_getElem? hx
        simp only [List.mem_cons, List.not_mem_nil, or_false] at this
        rcases this with rfl | rfl
        · exact ⟨2, rfl⟩
        · exact ⟨3, rfl⟩
      have hd2 := dq_same s2 hd1
      refine ⟨v, rfl, .int mn, rfl, v, mn, d, rfl, hd2, fun H3 s3 => ?_⟩
      refine ⟨.int mn, rfl, v, rfl, rfl, v, mn, d, rfl, dq_same s3 hd2, fun H4 s4 => ⟨(by show 2 ≤ sizeLine; decide), fun l nl => ?_⟩⟩
      have s5 : Same H4 (upd H4 l (.lst [.bl (isEx mn d), .bl (isEx mn d)])) := same_new nl
      have e5 : (upd H4 l (.lst [.bl (isEx mn d), .bl (isEx mn d)])) l = some (.lst [.bl (isEx mn d), .bl (isEx mn d)]) := upd_same
      generalize upd H4 l (.lst [.bl (isEx mn d), .bl (isEx mn d)]) = H5 at s5 e5 ⊢
      have sz : (PyData.shown (.list [.bool (isEx mn d), .bool (isEx mn d)])).length ≤ sizeLine := (ShhAll.lst (ShhAll.cons (Shh.bl (isEx mn d)) (ShhAll.cons (Shh.bl (isEx mn d)) (ShhAll.nil (k := 0)) (Nat.le_refl _) (Nat.le_refl _)) (Nat.le_refl _) (Nat.le_refl _))).fits (by decide)
      refine ⟨.ref l, rfl, .ref l, _, rfl, .lst (SqL.of e5) (.cons (.bl _) (.cons (.bl _) .nil)), rfl, (by show 1 ≤ 60; decide), sz, ?_⟩
      have s25 := (s3.trans s4).trans s5
      refine ⟨v, rfl, .int mn, rfl, v, mn, d, rfl, dq_same s25 hd2, fun H6 s6 => ⟨(by show 1 ≤ sizeLine; decide), fun l2 nl2 => ?_⟩⟩
      refine ⟨l2, 2, _, rfl, rfl, upd_same, by decide, by decide, (by show 1 * 2 ≤ sizeLine; decide), fun l3 nl3 => ?_⟩
      refine ⟨.ref l3, _, rfl, .lst (SqL.of upd_same) (.cons (.bl _) (.cons (.bl _) .nil)), rfl, (by show 1 ≤ 60; decide), sz, ?_⟩
      refine ⟨rfl, _, rfl, iteFF (by simp) ?_⟩
      exact ⟨_, _, rfl, ((s2.trans s25).trans s6).trans ((same_new nl2).trans (same_new nl3))⟩
    · rintro σ H2 ⟨y2, y3, rfl, s2⟩
      refine ⟨v, rfl, v, d, rfl, dq_same s2 hd1, hsd.sh, Nat.le_trans hsd.dp (by decide), hsd.fits (by decide), .str d.shown, rfl, rfl, ?_⟩
      have q := q _ (s1.trans s2)
      have key : ∀ bb : Bool, bb = true → Q (.bl bb) H2 := fun bb h => by rw [h]; exact q
      exact key _ (by simp)
theorem ok_law {f : Addr} {fd : FuncData} (F : Fun K "law" "law" s_law f fd) (B : Bl mg) {lw : Nat} (h1 : 17 ≤ lw) (c_L_hand : Cal P w K mg base 1 "_law_hand" (spHand K)) (c_L_take : Cal P w K mg base 1 "_law_take" spTake) (c_L_expression : Cal P w K mg base lw "_law_expression" (spExpr K 5)) (c_L_bent : Cal P w K mg base 13 "_law_bent" (spBentX K 10)) (c_L_is : Cal P w K mg base 12 "_law_is" (spLIs K)) (c_L_right : CalG P w K mg base 17 "_law_right" (spRightX K)) : FnG P w K mg base (lw + 1) f fd ["_law_script"] (spLaw K) := by
  refine fnG F sc_law (fun vs H Q E h => ?_) (fun cdv A outer s H vs Q hg hr h => ?_)
  · obtain ⟨_, _, rfl, _⟩ := h
    rfl
  · obtain ⟨sc, ns, rfl, hS, hl, q⟩ := h
    refine ⟨_, (pss_cons (ps_for PassesOwn.never rfl (pi_range1 rfl B.range (pa_cons (pe_op op_add pe_int (pe_callB (call_min2 rfl) (by rfl) B.min (by decide +kernel) (pa_cons pe_int (pa_cons (pe_callB call_len_seq (by rfl) B.len PySem.boot_len (pa_cons (pv 0) pa_nil)) pa_nil)))) pa_nil)) (pg_name (i := 1) sc_law.nd rfl (.inl rfl)) (pss_cons (ps_set (i := 2) sc_law.nd rfl (.inl rfl) (pe_c c_L_hand hr (by omega) (by rfl) (pa_cons (pv 0) (pa_cons (pv 1) pa_nil)))) (pss_cons (ps_set (i := 3) sc_law.nd rfl (.inl rfl) (pe_c c_L_expression hr (by omega) (by rfl) (pa_cons (pv 2) (pa_cons (pe_op op_add pe_int (pe_c c_L_take hr (by omega) (by rfl) (pa_cons (pv 2) (pa_cons pe_int pa_nil)))) (pa_cons (pe_op op_add pe_int (pe_c c_L_take hr (by omega) (by rfl) (pa_cons (pv 2) (pa_cons pe_int pa_nil)))) (pa_cons pe_int pa_nil)))))) (pss_cons (ps_set (i := 4) sc_law.nd rfl (.inl rfl) (pe_lst (pa_cons (pv 3) (pa_cons pe_non (pa_cons pe_bl (pa_cons pe_int (pa_cons pe_str (pa_cons pe_str (pa_cons (pe_tup pa_nil) (pa_cons (pe_lst pa_nil) (pa_cons pe_dnewK (pa_cons (pe_tup (pa_cons pe_str pa_nil)) (pa_cons (pe_tup (pa_cons pe_str (pa_cons pe_int pa_nil))) (pa_cons (pe_tup (pa_cons pe_str (pa_cons pe_bl pa_nil))) (pa_cons (pe_tup (pa_cons pe_str (pa_cons pe_int pa_nil))) (pa_cons (pe_lst (pa_cons (pv 3) pa_nil)) pa_nil)))))))))))))))) (pss_cons (ps_for PassesOwn.never rfl (pi_range1 rfl B.range (pa_cons pe_int pa_nil)) (pg_name (i := 5) sc_law.nd rfl (.inl rfl)) (pss_cons (ps_set (i := 6) sc_law.nd rfl (.inl rfl) (pe_c c_L_bent hr (by omega) (by rfl) (pa_cons (pv 2) (pa_cons (pv 3) pa_nil)))) (pss_one (ps_expr (pe_bm PySem.F.plainAttrs_list PySem.F.slot_list_append PySem.F.type_list_append mt_append (pv 4) (pa_cons (pe_cut (pe_ifExp (pt_cmpR op_eq (pe_c c_L_take hr (by omega) (by rfl) (pa_cons (pv 2) (pa_cons pe_int pa_nil))) pe_int (nomark _)) (pe_c c_L_bent hr (by omega) (by rfl) (pa_cons (pv 2) (pa_cons (pv 6) pa_nil))) (pv 6))) pa_nil)))))) (pss_one (ps_if (PW.pt (pw_or (pt_not (pt_val (pe_c c_L_is hr (by omega) (by rfl) (pa_cons (pv 3) (pa_cons pe_int pa_nil))))) (pw_or1 (pt_not (pt_val (pe_callB (cr_all rfl) (by rfl) B.all (by decide +kernel) (pa_cons (pe_lc (own := [("_law_item", 7)]) rfl sc_law.nd (pi_list (pv 4)) (blkOk_by (N := N_law) (sc := defScope s_law) (by decide +kernel)) (fun _ _ _ _ _ => pg_name (i := 7) sc_law.nd rfl (.inl rfl)) (fun _ _ _ _ _ => pts_nil) (fun _ _ _ _ _ => pe_g c_L_right hg hr (by omega) (by rfl) (pa_cons (pv 7) pa_nil))) pa_nil))))))) (pss_one (ps_ret pe_bl)) pss_nil))))))) (pss_one (ps_ret pe_bl))), ?_⟩
    have hb : ∀ z : Int, (if z < 3 then z else 3) ≤ 3 := fun z => by split <;> omega
    have hb0 : ∀ z : Int, 0 ≤ z → 0 ≤ (if z < 3 then z else 3) := fun z hz => by split <;> omega
    have h3 := hb (((ns.map V.int).length : Nat) : Int)
    have h4 := hb0 (((ns.map V.int).length : Nat) : Int) (by omega)
    refine ⟨.ref sc, rfl, sc, _, rfl, .inl hS, _, _, rfl, _, _, rfl, rfl, _, rfl, by omega, by omega, ?_⟩
    refine for_range (fun i σ H' => ∃ y1 y2 y3 y4 y5 y6, σ = [some (.ref sc), y1, y2, y3, y4, y5, y6, none] ∧ Same H H') ⟨none, none, none, none, none, none, rfl, Same.refl _⟩ ?_ ?_
    · rintro i σ H1 hi ⟨y1, y2, y3, y4, y5, y6, rfl, sm1⟩
      have hi4 : i < 4 := by omega
      refine ⟨.ref sc, rfl, .int (0 + (i : Int)), rfl, sc, _, ns, rfl, by omega, by omega, sm1.seq hS, fun a g sd np g0 sd0 => ?_⟩
      have hh1 : HandAt (upd H1 a (.lst [.int g, .int sd, .int 0])) a 0 := ⟨g, sd, 0, upd_same, g0, sd0, by decide, by decide⟩
      have b1 : But a H1 (upd H1 a (.lst [.int g, .int sd, .int 0])) := But.put
      generalize upd H1 a (.lst [.int g, .int sd, .int 0]) = H2 at hh1 b1 ⊢
      refine ⟨.ref a, rfl, .ref a, rfl, a, 2, _, rfl, by decide, by decide, hh1, by decide, fun H3 r b3 hh3 r0 r1 => ⟨_, _, rfl, rfl, ?_⟩⟩
      obtain ⟨many, hm⟩ : ∃ m : Nat, 2 + r = (m : Int) := ⟨(2 + r).toNat, by omega⟩
      refine ⟨.ref a, rfl, a, 4, _, rfl, by decide, by decide, hh3, by decide, fun H4 r2 b4 hh4 r20 r21 => ⟨_, _, rfl, rfl, ?_⟩⟩
      obtain ⟨lv, hv⟩ : ∃ m : Nat, 1 + r2 = (m : Int) := ⟨(1 + r2).toNat, by omega⟩
      have hc4 : cost lv ≤ 396 := by
        have : lv ≤ 4 := by omega
        match lv, this with
        | 0, _ => decide
        | 1, _ => decide
        | 2, _ => decide
        | 3, _ => decide
        | 4, _ => decide
      refine ⟨a, many, lv, 2, (by show [V.ref a, V.int (2 + r), V.int (1 + r2), V.int 1] = [V.ref a, V.int (many : Int), V.int (lv : Int), V.int 1]; rw [hm, hv]), by omega, by omega, by omega, hh4, by omega, fun H5 v e b5 hh5 he oe de => ?_⟩
      have hm3 : many ≤ 3 := by omega
      have de5 : e.dep ≤ 5 := by omega
      have hsz : e.size ≤ 31 := by
        have h1 := size_dep e
        have h2 := Nat.pow_le_pow_right (n := 2) (by decide) de5
        omega
      have hte := tm_ex hm3 oe
      have hh5 : HandAt H5 a 400 := hh5.le (by omega)
      have b15 := ((b1.trans b3).trans b4).trans b5
      clear b1 b3 b4 b5 hh1 hh3 hh4
      refine ⟨v, rfl, (by show 0 ≤ sizeLine; decide), fun t0 n0 => ⟨(by show 0 ≤ sizeLine; decide), fun e0 m0 k0 nk0 => ⟨(by show 1 ≤ sizeLine; decide), fun t1 n1 => ⟨(by show 2 ≤ sizeLine; decide), fun t2 n2 => ⟨(by show 2 ≤ sizeLine; decide), fun t3 n3 => ⟨(by show 2 ≤ sizeLine; decide), fun t4 n4 => ⟨v, rfl, (by show 1 ≤ sizeLine; decide), fun e1 m1 => ⟨(by show 14 ≤ sizeLine; decide), fun l nl => ?_⟩⟩⟩⟩⟩⟩⟩⟩
      have s0 : Same H5 H5 := Same.refl _
      have s1 : Same H5 (upd H5 t0 (.tup [])) := (s0.trans (same_new n0))
      have s2 : Same H5 (upd (upd H5 t0 (.tup [])) e0 (.lst [])) := (s1.trans (same_new m0))
      have s3 : Same H5 (upd (upd (upd H5 t0 (.tup [])) e0 (.lst [])) k0 (.dK [])) := (s2.trans (same_new nk0))
      have s4 : Same H5 (upd (upd (upd (upd H5 t0 (.tup [])) e0 (.lst [])) k0 (.dK [])) t1 (.tup [.str "fig"])) := (s3.trans (same_new n1))
      have s5 : Same H5 (upd (upd (upd (upd (upd H5 t0 (.tup [])) e0 (.lst [])) k0 (.dK [])) t1 (.tup [.str "fig"])) t2 (.tup [.str "fig", .int 0])) := (s4.trans (same_new n2))
      have s6 : Same H5 (upd (upd (upd (upd (upd (upd H5 t0 (.tup [])) e0 (.lst [])) k0 (.dK [])) t1 (.tup [.str "fig"])) t2 (.tup [.str "fig", .int 0])) t3 (.tup [.str "fig", .bl true])) := (s5.trans (same_new n3))
      have s7 : Same H5 (upd (upd (upd (upd (upd (upd (upd H5 t0 (.tup [])) e0 (.lst [])) k0 (.dK [])) t1 (.tup [.str "fig"])) t2 (.tup [.str "fig", .int 0])) t3 (.tup [.str "fig", .bl true])) t4 (.tup [.str "share", .int 2])) := (s6.trans (same_new n4))
      have s8 : Same H5 (upd (upd (upd (upd (upd (upd (upd (upd H5 t0 (.tup [])) e0 (.lst [])) k0 (.dK [])) t1 (.tup [.str "fig"])) t2 (.tup [.str "fig", .int 0])) t3 (.tup [.str "fig", .bl true])) t4 (.tup [.str "share", .int 2])) e1 (.lst [v])) := s7.trans (same_new m1)
      have at0 := hh5.ne (none_back s0 n0)
      have ae0 := hh5.ne (none_back s1 m0)
      have ak0 := hh5.ne (none_back s2 nk0)
      have at1 := hh5.ne (none_back s3 n1)
      have at2 := hh5.ne (none_back s4 n2)
      have at3 := hh5.ne (none_back s5 n3)
      have at4 := hh5.ne (none_back s6 n4)
      have ae1 := hh5.ne (none_back s7 m1)
      have ct0 : (upd (upd (upd (upd (upd (upd (upd (upd H5 t0 (.tup [])) e0 (.lst [])) k0 (.dK [])) t1 (.tup [.str "fig"])) t2 (.tup [.str "fig", .int 0])) t3 (.tup [.str "fig", .bl true])) t4 (.tup [.str "share", .int 2])) e1 (.lst [v])) t0 = some (.tup []) := same_new m1 _ _ (same_new n4 _ _ (same_new n3 _ _ (same_new n2 _ _ (same_new n1 _ _ (same_new nk0 _ _ (same_new m0 _ _ upd_same))))))
      have ce0 : (upd (upd (upd (upd (upd (upd (upd (upd H5 t0 (.tup [])) e0 (.lst [])) k0 (.dK [])) t1 (.tup [.str "fig"])) t2 (.tup [.str "fig", .int 0])) t3 (.tup [.str "fig", .bl true])) t4 (.tup [.str "share", .int 2])) e1 (.lst [v])) e0 = some (.lst []) := same_new m1 _ _ (same_new n4 _ _ (same_new n3 _ _ (same_new n2 _ _ (same_new n1 _ _ (same_new nk0 _ _ upd_same)))))
      have ck0 : (upd (upd (upd (upd (upd (upd (upd (upd H5 t0 (.tup [])) e0 (.lst [])) k0 (.dK [])) t1 (.tup [.str "fig"])) t2 (.tup [.str "fig", .int 0])) t3 (.tup [.str "fig", .bl true])) t4 (.tup [.str "share", .int 2])) e1 (.lst [v])) k0 = some (.dK []) := same_new m1 _ _ (same_new n4 _ _ (same_new n3 _ _ (same_new n2 _ _ (same_new n1 _ _ upd_same))))
      have ct1 : (upd (upd (upd (upd (upd (upd (upd (upd H5 t0 (.tup [])) e0 (.lst [])) k0 (.dK [])) t1 (.tup [.str "fig"])) t2 (.tup [.str "fig", .int 0])) t3 (.tup [.str "fig", .bl true])) t4 (.tup [.str "share", .int 2])) e1 (.lst [v])) t1 = some (.tup [.str "fig"]) := same_new m1 _ _ (same_new n4 _ _ (same_new n3 _ _ (same_new n2 _ _ upd_same)))
      have ct2 : (upd (upd (upd (upd (upd (upd (upd (upd H5 t0 (.tup [])) e0 (.lst [])) k0 (.dK [])) t1 (.tup [.str "fig"])) t2 (.tup [.str "fig", .int 0])) t3 (.tup [.str "fig", .bl true])) t4 (.tup [.str "share", .int 2])) e1 (.lst [v])) t2 = some (.tup [.str "fig", .int 0]) := same_new m1 _ _ (same_new n4 _ _ (same_new n3 _ _ upd_same))
      have ct3 : (upd (upd (upd (upd (upd (upd (upd (upd H5 t0 (.tup [])) e0 (.lst [])) k0 (.dK [])) t1 (.tup [.str "fig"])) t2 (.tup [.str "fig", .int 0])) t3 (.tup [.str "fig", .bl true])) t4 (.tup [.str "share", .int 2])) e1 (.lst [v])) t3 = some (.tup [.str "fig", .bl true]) := same_new m1 _ _ (same_new n4 _ _ upd_same)
      have ct4 : (upd (upd (upd (upd (upd (upd (upd (upd H5 t0 (.tup [])) e0 (.lst [])) k0 (.dK [])) t1 (.tup [.str "fig"])) t2 (.tup [.str "fig", .int 0])) t3 (.tup [.str "fig", .bl true])) t4 (.tup [.str "share", .int 2])) e1 (.lst [v])) t4 = some (.tup [.str "share", .int 2]) := same_new m1 _ _ upd_same
      have ce1 : (upd (upd (upd (upd (upd (upd (upd (upd H5 t0 (.tup [])) e0 (.lst [])) k0 (.dK [])) t1 (.tup [.str "fig"])) t2 (.tup [.str "fig", .int 0])) t3 (.tup [.str "fig", .bl true])) t4 (.tup [.str "share", .int 2])) e1 (.lst [v])) e1 = some (.lst [v]) := upd_same
      have al : l ≠ a := hh5.ne (none_back s8 nl)
      clear s0 s1 s2 s3 s4 s5 s6 s7 n0 m0 nk0 n1 n2 n3 n4 m1
      generalize upd (upd (upd (upd (upd (upd (upd (upd H5 t0 (.tup [])) e0 (.lst [])) k0 (.dK [])) t1 (.tup [.str "fig"])) t2 (.tup [.str "fig", .int 0])) t3 (.tup [.str "fig", .bl true])) t4 (.tup [.str "share", .int 2])) e1 (.lst [v]) = H6 at ct0 ce0 ck0 ct1 ct2 ct3 ct4 ce1 nl s8 ⊢
      have b16 : But a H1 H6 := b15.trans (But.of s8)
      have hnl : H1 l = none := by
        cases e : H1 l with
        | none => rfl
        | some o => rw [b16 _ _ al e] at nl; cases nl
      have cl : (upd H6 l (.lst [v, .non, .bl true, .int 0, .str "", .str "fig", .ref t0, .ref e0, .ref k0, .ref t1, .ref t2, .ref t3, .ref t4, .ref e1])) l = some (.lst [v, .non, .bl true, .int 0, .str "", .str "fig", .ref t0, .ref e0, .ref k0, .ref t1, .ref t2, .ref t3, .ref t4, .ref e1]) := upd_same
      have hz : ∀ {p : Addr} {o : HO}, p ≠ a → H6 p = some o → hideL [a, l] (upd H6 l (.lst [v, .non, .bl true, .int 0, .str "", .str "fig", .ref t0, .ref e0, .ref k0, .ref t1, .ref t2, .ref t3, .ref t4, .ref e1])) p = some o := fun {p o} h1 h2 => hideL_at (fun hp => by
        rcases List.mem_cons.mp hp with z | z
        · exact h1 z
        · rw [List.mem_singleton.mp z] at h2
          rw [nl] at h2
          cases h2) (same_new nl _ _ h2)
      have t7 : Tr a [l] 400 (upd H6 l (.lst [v, .non, .bl true, .int 0, .str "", .str "fig", .ref t0, .ref e0, .ref k0, .ref t1, .ref t2, .ref t3, .ref t4, .ref e1])) := ⟨(hh5.same s8).new nl, fun x hx => by
        rw [List.mem_singleton.mp hx]
        exact ⟨al, _, upd_same⟩⟩
      have he7 : ExAt K (upd H6 l (.lst [v, .non, .bl true, .int 0, .str "", .str "fig", .ref t0, .ref e0, .ref k0, .ref t1, .ref t2, .ref t3, .ref t4, .ref e1])) e v := (he.same s8).new nl
      have b7 : But a H1 (upd H6 l (.lst [v, .non, .bl true, .int 0, .str "", .str "fig", .ref t0, .ref e0, .ref k0, .ref t1, .ref t2, .ref t3, .ref t4, .ref e1])) := b16.trans (But.new nl)
      have dt0 := hz at0 ct0
      have de0 := hz ae0 ce0
      have dk0 := hz ak0 ck0
      have dt1 := hz at1 ct1
      have dt2 := hz at2 ct2
      have dt3 := hz at3 ct3
      have dt4 := hz at4 ct4
      have de1 := hz ae1 ce1
      clear hz ct0 ce0 ck0 ct1 ct2 ct3 ct4 ce1 nl s8 b16 b15 hh5 he
      generalize upd H6 l (.lst [v, .non, .bl true, .int 0, .str "", .str "fig", .ref t0, .ref e0, .ref k0, .ref t1, .ref t2, .ref t3, .ref t4, .ref e1]) = H7 at cl t7 he7 b7 dt0 de0 dk0 dt1 dt2 dt3 dt4 de1 ⊢
      have hv : ∀ {n : Nat} {H' : Hp}, Tr a [l] n H' → ExAt K H' e v → Dq K (hideL [a, l] H') v (toD e) := fun t h => dq_of (h.imp fun _ _ q => hideL_sqt t q).dp
      have hte5 : Tm 2000 9300 5 (toD e) := hte.mono (Nat.le_refl _) (by omega) de5
      have hds : DqAll K (hideL [a, l] H7) [v, .non, .bl true, .int 0, .str "", .str "fig", .ref t0, .ref e0, .ref k0, .ref t1, .ref t2, .ref t3, .ref t4, .ref e1] [toD e, .none, .bool true, .int 0, .str "", .str "fig", .tuple [], .list [], .dict [], .tuple [.str "fig"], .tuple [.str "fig", .int 0], .tuple [.str "fig", .bool true], .tuple [.str "share", .int 2], .list [toD e]] := .cons (hv t7 he7) (.cons .non (.cons (.bl _) (.cons (.int _) (.cons (.str _) (.cons (.str _) (.cons (.tup (SqT.of dt0) .nil) (.cons (.lst (SqL.of de0) .nil) (.cons (.dic dk0) (.cons (.tup (SqT.of dt1) (.cons (.str _) .nil)) (.cons (.tup (SqT.of dt2) (.cons (.str _) (.cons (.int _) .nil))) (.cons (.tup (SqT.of dt3) (.cons (.str _) (.cons (.bl _) .nil))) (.cons (.tup (SqT.of dt4) (.cons (.str _) (.cons (.int _) .nil))) (.cons (.lst (SqL.of de1) (.cons (hv t7 he7) .nil)) .nil)))))))))))))
      have hts : ∀ d ∈ ([toD e, .none, .bool true, .int 0, .str "", .str "fig", .tuple [], .list [], .dict [], .tuple [.str "fig"], .tuple [.str "fig", .int 0], .tuple [.str "fig", .bool true], .tuple [.str "share", .int 2], .list [toD e]] : List PyData), Tm 3000 40000 20 d := by
        have up : ∀ {B W D : Nat} {d : PyData}, Tm B W D d → B ≤ 3000 → W ≤ 40000 → D ≤ 20 → Tm 3000 40000 20 d := fun h h1 h2 h3 => h.mono h1 h2 h3
        have sg : ∀ {x : Str}, (x.cps.toList.all fun c => decide (c < 16 ^ 8)) = true → x.cps.size ≤ 10 → Tm 3000 10 0 (.str x) := fun h1 h2 => Tm.str h1 h2
        have i1 : ∀ {z : Int}, z.natAbs ≤ 3000 → Tm 3000 140 0 (.int z) := fun h => Tm.int h (by decide)
        intro d hd
        simp only [List.mem_cons, List.not_mem_nil, or_false] at hd
        rcases hd with rfl | rfl | rfl | rfl | rfl | rfl | rfl | rfl | rfl | rfl | rfl | rfl | rfl | rfl
        · exact up hte5 (by decide) (by decide) (by decide)
        · exact up (Tm.non (B := 0)) (by decide) (by decide) (by decide)
        · exact up (Tm.bl (B := 0) true) (by decide) (by decide) (by decide)
        · exact up (i1 (z := 0) (by decide)) (by decide) (by decide) (by decide)
        · exact up (sg (x := "") (by decide) (by decide)) (by decide) (by decide) (by decide)
        · exact up (sg (x := "fig") (by decide) (by decide)) (by decide) (by decide) (by decide)
        · exact up (Tms.nil (B := 0) (W := 0) (D := 0)).tup (by decide) (by decide) (by decide)
        · exact up (Tms.nil (B := 0) (W := 0) (D := 0)).lst (by decide) (by decide) (by decide)
        · exact up (Tm.dic (B := 0)) (by decide) (by decide) (by decide)
        · exact up (Tms.cons (sg (x := "fig") (by decide) (by decide)) (.nil (W := 0))).tup (by decide) (by decide) (by decide)
        · exact up (Tms.cons ((sg (x := "fig") (by decide) (by decide))) (Tms.cons (i1 (z := 0) (by decide)) (.nil (W := 0)))).tup (by decide) (by decide) (by decide)
        · exact up (Tms.cons ((sg (x := "fig") (by decide) (by decide))) (Tms.cons (Tm.bl (B := 3000) true) (.nil (W := 0)))).tup (by decide) (by decide) (by decide)
        · exact up (Tms.cons ((sg (x := "share") (by decide) (by decide))) (Tms.cons (i1 (z := 2) (by decide)) (.nil (W := 0)))).tup (by decide) (by decide) (by decide)
        · exact up (Tms.cons hte5 (.nil (W := 0))).lst (by decide) (by decide) (by decide)
      clear dt0 de0 dk0 dt1 dt2 dt3 dt4 de1 at0 ae0 ak0 at1 at2 at3 at4 ae1
      generalize ([v, .non, .bl true, .int 0, .str "", .str "fig", .ref t0, .ref e0, .ref k0, .ref t1, .ref t2, .ref t3, .ref t4, .ref e1] : List V) = vs0 at cl hds ⊢
      obtain ⟨ds0, hds, hts, hl0⟩ : ∃ ds, DqAll K (hideL [a, l] H7) vs0 ds ∧ (∀ d ∈ ds, Tm 3000 40000 20 d) ∧ ds.length = 14 := ⟨_, hds, hts, rfl⟩
      refine ⟨_, rfl, by decide, by decide, ?_⟩
      refine for_range (n := 16) (fun j σ H' => ∃ z5 z6 vs ds, σ = [some (.ref sc), some (.int (0 + (i : Int))), some (.ref a), some v, some (.ref l), z5, z6, none] ∧ But a H1 H' ∧ Tr a [l] (400 + 100 * j) H' ∧ H' l = some (.lst vs) ∧ DqAll K (hideL [a, l] H') vs ds ∧ (∀ d ∈ ds, Tm 3000 40000 20 d) ∧ ds.length = 14 + j ∧ ExAt K H' e v) ⟨_, _, vs0, ds0, rfl, b7, t7, cl, hds, hts, hl0, he7⟩ ?_ ?_
      · rintro j σ H8 hj ⟨z5, z6, vs, ds, rfl, b8, t8, cl8, hd8, ht8, hl8, he8⟩
        have hj16 : j < 16 := hj
        refine ⟨.ref a, rfl, v, rfl, a, v, toD e, 2000, 9300, 5, 400 + 100 * j, [l], rfl, by decide, hv t8 he8, hte5, by decide, by decide, Nat.le_trans hte5.wt (by decide), t8, by omega, fun H9 u1 d1 b9 hh9 hd9 ht9 => ?_⟩
        have t9 := t8.but b9 hh9
        have cl9 := b9 _ _ al cl8
        have hs9 := dqall_same (hideL_but b9) hd8
        have he9 := he8.but b9 t8.hand
        refine ⟨.ref l, rfl, .inl ⟨rfl, _, SqL.of cl9⟩, fun v2 H' => ∃ d2, But a H9 H' ∧ HandAt H' a (500 + 100 * j) ∧ Dq K (hideL [a, l] H') v2 d2 ∧ Tm 3000 40000 20 d2, ?_, ?_⟩
        · refine ⟨.ref a, rfl, a, 3, _, rfl, by decide, by decide, hh9, by omega, fun H10 r b10 hh10 r0 r1 => ?_⟩
          have d2 := hd9
          have gD9 : Dq K (hideL [a, l] H10) u1 d1 := dq_same (hideL_but b10) hd9
          have pl : r ≠ 0 → ∃ d2, But a H9 H10 ∧ HandAt H10 a (500 + 100 * j) ∧ Dq K (hideL [a, l] H10) u1 d2 ∧ Tm 3000 40000 20 d2 := fun _ => ⟨d1, b10, hh10.le (by omega), gD9, ht9.mono (by decide) (by decide) (by decide)⟩
          by_cases c : r = 0
          · subst c
            refine ⟨rfl, _, rfl, iteTT rfl ?_⟩
            refine ⟨.ref a, rfl, u1, rfl, a, u1, d1, 2001, 19000, 7, _, [l], rfl, by decide, gD9, ht9, by decide, by decide, Nat.le_trans ht9.wt (by decide), t9.but b10 hh10, by omega, fun H11 u2 d2 b11 hh11 hd11 ht11 => ?_⟩
            exact ⟨d2, b10.trans b11, hh11.le (by omega), hd11, ht11.mono (by decide) (by decide) (by decide)⟩
          · refine ⟨rfl, _, rfl, iteFF (decide_eq_false fun e => c (V.int.inj e)) ?_⟩
            exact ⟨u1, rfl, pl c⟩
        · rintro v2 H10 ⟨d2, b10, hh10, hd10, ht10⟩
          have t10 := t9.but b10 hh10
          have cl10 := b10 _ _ al cl9
          have hs10 := dqall_same (hideL_but b10) hs9
          have he10 := he9.but b10 t9.hand
          refine ⟨l, vs, v2, rfl, rfl, cl10, small1000 (by rw [dqall_len hs10]; omega), ?_⟩
          refine ⟨_, _, _, ds ++ [d2], rfl, fun b o nb eb => ?_, ⟨(t10.hand.put al).le (by omega), fun x hx => ?_⟩, upd_same, dqall_app (.cons (dq_same (hideL_put (List.mem_cons_of_mem _ List.mem_cons_self)) hd10) .nil) (dqall_same (hideL_put (List.mem_cons_of_mem _ List.mem_cons_self)) hs10), fun d hd => ?_, by rw [List.length_append, hl8]; rfl, he10.imp fun _ _ q => put_sqt cl10 q⟩
          · rw [upd_ne (ne_of_none eb hnl)]
            exact b10 _ _ nb (b9 _ _ nb (b8 _ _ nb eb))
          · rw [List.mem_singleton.mp hx]
            exact ⟨al, _, upd_same⟩
          · rcases List.mem_append.mp hd with hd | hd
            · exact ht8 d hd
            · rw [List.mem_singleton.mp hd]
              exact ht10
      · rintro σ H8 ⟨z5, z6, vs, ds, rfl, b8, t8, cl8, hd8, ht8, hl8, he8⟩
        have hd8 := dqall_same hideL_same hd8
        refine ⟨v, rfl, v, 3, toD e, rfl, dq_of he8.dp, fun H9 s9 => ?_⟩
        have e3 : isEx 3 (toD e) = true := (isEx_of (exok_three hm3 oe)).trans (decide_eq_true ⟨by omega, by omega⟩)
        rw [e3]
        have cl9 := s9 _ _ cl8
        have hd9 := dqall_same s9 hd8
        refine ⟨true, rfl, iteFF rfl ⟨.ref l, rfl, l, rfl, ⟨_, SqL.of cl9⟩, fun D nD => lc_list (xs := vs) (fun m H' => Same H9 H' ∧ H' D = some (.lst ((List.replicate m true).map V.bl))) ⟨same_new nD, upd_same⟩ (fun m H' _ h => SqL.of (h.1 _ _ cl9)) ?_ ?_⟩⟩
        · rintro m x Hm hx ⟨sm, hDm⟩
          obtain ⟨dd, hdd, hdp⟩ := dqall_get hd9 hx
          have hm30 : m < 30 := by
            have h1 := (List.getElem?_eq_some_iff.mp hdd).1
            omega
          have htd := ht8 dd (List.mem_of_getElem? hdd)
          refine ⟨rfl, tYes_in ?_⟩
          refine ⟨x, rfl, x, dd, rfl, dq_same sm hdp, htd, fun Hk smk => ?_⟩
          have hDk := smk _ _ hDm
          refine ⟨_, hDk, ?_, fun b' o eb => ?_, ?_⟩
          · rw [List.length_map, List.length_replicate]
            exact small1000 (by omega)
          · rw [upd_ne (ne_of_none eb nD)]
            exact smk _ _ (sm _ _ eb)
          · rw [upd_same, List.replicate_succ', List.map_append]
            rfl
        · rintro Hm ⟨sm, hDm⟩
          refine ⟨D, List.replicate vs.length true, rfl, SqL.of hDm, _, rfl, iteFF ?_ ?_⟩
          · rw [List.all_replicate]
            simp
          · exact ⟨_, _, _, _, _, _, rfl, sm1.trans (((b8.same np).trans s9).trans sm)⟩
    · rintro σ H1 ⟨y1, y2, y3, y4, y5, y6, rfl, sm1⟩
      exact q _
end
end NG

namespace NG
open PySem PySem.Spec PyProof.Rows L2
theorem all_mk {l : PySem.W.OpenLaw} {w : World} {K : PySem.W.Frag} {h : Heap} {mg : Str → Option Value} {fa f_is_number f_is_within f_fits f_first_word f_fits_shape f_has_shape f_parts f_count_parts f_is_expression f_L_hand f_L_take f_L_of f_L_figure f_L_leaf f_L_expression f_L_forms f_L_size f_L_is f_L_odd f_L_bent f_L_right f_law : Addr} (X : K.In h) (G : h.Ns mainGlobals mg) (hfa : mg "law" = some (.ref fa))
    {od_is_number an_is_number od_is_within an_is_within od_fits an_fits od_first_word an_first_word od_fits_shape an_fits_shape od_has_shape an_has_shape od_parts an_parts od_count_parts an_count_parts od_is_expression an_is_expression od_L_hand an_L_hand od_L_take an_L_take od_L_of an_L_of od_L_figure an_L_figure od_L_leaf an_L_leaf od_L_expression an_L_expression od_L_forms an_L_forms od_L_size an_L_size od_L_is an_L_is od_L_odd an_L_odd od_L_bent an_L_bent od_L_right an_L_right od_law an_law : Option Addr} {sl_is_number sl_is_within sl_fits sl_first_word sl_fits_shape sl_has_shape sl_parts sl_count_parts sl_is_expression sl_L_hand sl_L_take sl_L_of sl_L_figure sl_L_leaf sl_L_expression sl_L_forms sl_L_size sl_L_is sl_L_odd sl_L_bent sl_L_right sl_law : Array (Option Value)} {oc_is_number kV_is_number dc_is_number pm_is_number cd_is_number ct_is_number oc_is_within kV_is_within dc_is_within pm_is_within cd_is_within ct_is_within oc_fits kV_fits dc_fits pm_fits cd_fits ct_fits oc_first_word kV_first_word dc_first_word pm_first_word cd_first_word ct_first_word oc_fits_shape kV_fits_shape dc_fits_shape pm_fits_shape cd_fits_shape ct_fits_shape oc_has_shape kV_has_shape dc_has_shape pm_has_shape cd_has_shape ct_has_shape oc_parts kV_parts dc_parts pm_parts cd_parts ct_parts oc_count_parts kV_count_parts dc_count_parts pm_count_parts cd_count_parts ct_count_parts oc_is_expression kV_is_expression dc_is_expression pm_is_expression cd_is_expression ct_is_expression oc_L_hand kV_L_hand dc_L_hand pm_L_hand cd_L_hand ct_L_hand oc_L_take kV_L_take dc_L_take pm_L_take cd_L_take ct_L_take oc_L_of kV_L_of dc_L_of pm_L_of cd_L_of ct_L_of oc_L_figure kV_L_figure dc_L_figure pm_L_figure cd_L_figure ct_L_figure oc_L_leaf kV_L_leaf dc_L_leaf pm_L_leaf cd_L_leaf ct_L_leaf oc_L_expression kV_L_expression dc_L_expression pm_L_expression cd_L_expression ct_L_expression oc_L_forms kV_L_forms dc_L_forms pm_L_forms cd_L_forms ct_L_forms oc_L_size kV_L_size dc_L_size pm_L_size cd_L_size ct_L_size oc_L_is kV_L_is dc_L_is pm_L_is cd_L_is ct_L_is oc_L_odd kV_L_odd dc_L_odd pm_L_odd cd_L_odd ct_L_odd oc_L_bent kV_L_bent dc_L_bent pm_L_bent cd_L_bent ct_L_bent oc_L_right kV_L_right dc_L_right pm_L_right cd_L_right ct_L_right oc_law kV_law dc_law pm_law cd_law ct_law : Value}
    (a_is_number : PySem.W.nsIn K mainGlobals "is_number" = some (some (.ref f_is_number))) (l_is_number : K.lookup f_is_number = some ⟨oc_is_number, od_is_number, .func (PySem.W.fnOf "is_number" "is_number" (defArgs s_is_number) (defBody s_is_number) (defScope s_is_number) .none kV_is_number dc_is_number pm_is_number an_is_number cd_is_number ct_is_number), sl_is_number⟩) (c_is_number : PySem.W.codeIn K cd_is_number "is_number" = true) (k_is_number : PySem.W.keepIn K (.ref f_is_number) = true)
    (a_is_within : PySem.W.nsIn K mainGlobals "is_within" = some (some (.ref f_is_within))) (l_is_within : K.lookup f_is_within = some ⟨oc_is_within, od_is_within, .func (PySem.W.fnOf "is_within" "is_within" (defArgs s_is_within) (defBody s_is_within) (defScope s_is_within) .none kV_is_within dc_is_within pm_is_within an_is_within cd_is_within ct_is_within), sl_is_within⟩) (c_is_within : PySem.W.codeIn K cd_is_within "is_within" = true) (k_is_within : PySem.W.keepIn K (.ref f_is_within) = true)
    (a_fits : PySem.W.nsIn K mainGlobals "fits" = some (some (.ref f_fits))) (l_fits : K.lookup f_fits = some ⟨oc_fits, od_fits, .func (PySem.W.fnOf "fits" "fits" (defArgs s_fits) (defBody s_fits) (defScope s_fits) .none kV_fits dc_fits pm_fits an_fits cd_fits ct_fits), sl_fits⟩) (c_fits : PySem.W.codeIn K cd_fits "fits" = true) (k_fits : PySem.W.keepIn K (.ref f_fits) = true)
    (a_first_word : PySem.W.nsIn K mainGlobals "first_word" = some (some (.ref f_first_word))) (l_first_word : K.lookup f_first_word = some ⟨oc_first_word, od_first_word, .func (PySem.W.fnOf "first_word" "first_word" (defArgs s_first_word) (defBody s_first_word) (defScope s_first_word) .none kV_first_word dc_first_word pm_first_word an_first_word cd_first_word ct_first_word), sl_first_word⟩) (c_first_word : PySem.W.codeIn K cd_first_word "first_word" = true) (k_first_word : PySem.W.keepIn K (.ref f_first_word) = true)
    (a_fits_shape : PySem.W.nsIn K mainGlobals "fits_shape" = some (some (.ref f_fits_shape))) (l_fits_shape : K.lookup f_fits_shape = some ⟨oc_fits_shape, od_fits_shape, .func (PySem.W.fnOf "fits_shape" "fits_shape" (defArgs s_fits_shape) (defBody s_fits_shape) (defScope s_fits_shape) .none kV_fits_shape dc_fits_shape pm_fits_shape an_fits_shape cd_fits_shape ct_fits_shape), sl_fits_shape⟩) (c_fits_shape : PySem.W.codeIn K cd_fits_shape "fits_shape" = true) (k_fits_shape : PySem.W.keepIn K (.ref f_fits_shape) = true)
    (a_has_shape : PySem.W.nsIn K mainGlobals "has_shape" = some (some (.ref f_has_shape))) (l_has_shape : K.lookup f_has_shape = some ⟨oc_has_shape, od_has_shape, .func (PySem.W.fnOf "has_shape" "has_shape" (defArgs s_has_shape) (defBody s_has_shape) (defScope s_has_shape) .none kV_has_shape dc_has_shape pm_has_shape an_has_shape cd_has_shape ct_has_shape), sl_has_shape⟩) (c_has_shape : PySem.W.codeIn K cd_has_shape "has_shape" = true) (k_has_shape : PySem.W.keepIn K (.ref f_has_shape) = true)
    (a_parts : PySem.W.nsIn K mainGlobals "parts" = some (some (.ref f_parts))) (l_parts : K.lookup f_parts = some ⟨oc_parts, od_parts, .func (PySem.W.fnOf "parts" "parts" (defArgs s_parts) (defBody s_parts) (defScope s_parts) .none kV_parts dc_parts pm_parts an_parts cd_parts ct_parts), sl_parts⟩) (c_parts : PySem.W.codeIn K cd_parts "parts" = true) (k_parts : PySem.W.keepIn K (.ref f_parts) = true)
    (a_count_parts : PySem.W.nsIn K mainGlobals "count_parts" = some (some (.ref f_count_parts))) (l_count_parts : K.lookup f_count_parts = some ⟨oc_count_parts, od_count_parts, .func (PySem.W.fnOf "count_parts" "count_parts" (defArgs s_count_parts) (defBody s_count_parts) (defScope s_count_parts) .none kV_count_parts dc_count_parts pm_count_parts an_count_parts cd_count_parts ct_count_parts), sl_count_parts⟩) (c_count_parts : PySem.W.codeIn K cd_count_parts "count_parts" = true) (k_count_parts : PySem.W.keepIn K (.ref f_count_parts) = true)
    (a_is_expression : PySem.W.nsIn K mainGlobals "is_expression" = some (some (.ref f_is_expression))) (l_is_expression : K.lookup f_is_expression = some ⟨oc_is_expression, od_is_expression, .func (PySem.W.fnOf "is_expression" "is_expression" (defArgs s_is_expression) (defBody s_is_expression) (defScope s_is_expression) .none kV_is_expression dc_is_expression pm_is_expression an_is_expression cd_is_expression ct_is_expression), sl_is_expression⟩) (c_is_expression : PySem.W.codeIn K cd_is_expression "is_expression" = true) (k_is_expression : PySem.W.keepIn K (.ref f_is_expression) = true)
    (a_L_hand : PySem.W.nsIn K mainGlobals "_law_hand" = some (some (.ref f_L_hand))) (l_L_hand : K.lookup f_L_hand = some ⟨oc_L_hand, od_L_hand, .func (PySem.W.fnOf "_law_hand" "_law_hand" (defArgs s_L_hand) (defBody s_L_hand) (defScope s_L_hand) .none kV_L_hand dc_L_hand pm_L_hand an_L_hand cd_L_hand ct_L_hand), sl_L_hand⟩) (c_L_hand : PySem.W.codeIn K cd_L_hand "_law_hand" = true) (k_L_hand : PySem.W.keepIn K (.ref f_L_hand) = true)
    (a_L_take : PySem.W.nsIn K mainGlobals "_law_take" = some (some (.ref f_L_take))) (l_L_take : K.lookup f_L_take = some ⟨oc_L_take, od_L_take, .func (PySem.W.fnOf "_law_take" "_law_take" (defArgs s_L_take) (defBody s_L_take) (defScope s_L_take) .none kV_L_take dc_L_take pm_L_take an_L_take cd_L_take ct_L_take), sl_L_take⟩) (c_L_take : PySem.W.codeIn K cd_L_take "_law_take" = true) (k_L_take : PySem.W.keepIn K (.ref f_L_take) = true)
    (a_L_of : PySem.W.nsIn K mainGlobals "_law_of" = some (some (.ref f_L_of))) (l_L_of : K.lookup f_L_of = some ⟨oc_L_of, od_L_of, .func (PySem.W.fnOf "_law_of" "_law_of" (defArgs s_L_of) (defBody s_L_of) (defScope s_L_of) .none kV_L_of dc_L_of pm_L_of an_L_of cd_L_of ct_L_of), sl_L_of⟩) (c_L_of : PySem.W.codeIn K cd_L_of "_law_of" = true) (k_L_of : PySem.W.keepIn K (.ref f_L_of) = true)
    (a_L_figure : PySem.W.nsIn K mainGlobals "_law_figure" = some (some (.ref f_L_figure))) (l_L_figure : K.lookup f_L_figure = some ⟨oc_L_figure, od_L_figure, .func (PySem.W.fnOf "_law_figure" "_law_figure" (defArgs s_L_figure) (defBody s_L_figure) (defScope s_L_figure) .none kV_L_figure dc_L_figure pm_L_figure an_L_figure cd_L_figure ct_L_figure), sl_L_figure⟩) (c_L_figure : PySem.W.codeIn K cd_L_figure "_law_figure" = true) (k_L_figure : PySem.W.keepIn K (.ref f_L_figure) = true)
    (a_L_leaf : PySem.W.nsIn K mainGlobals "_law_leaf" = some (some (.ref f_L_leaf))) (l_L_leaf : K.lookup f_L_leaf = some ⟨oc_L_leaf, od_L_leaf, .func (PySem.W.fnOf "_law_leaf" "_law_leaf" (defArgs s_L_leaf) (defBody s_L_leaf) (defScope s_L_leaf) .none kV_L_leaf dc_L_leaf pm_L_leaf an_L_leaf cd_L_leaf ct_L_leaf), sl_L_leaf⟩) (c_L_leaf : PySem.W.codeIn K cd_L_leaf "_law_leaf" = true) (k_L_leaf : PySem.W.keepIn K (.ref f_L_leaf) = true)
    (a_L_expression : PySem.W.nsIn K mainGlobals "_law_expression" = some (some (.ref f_L_expression))) (l_L_expression : K.lookup f_L_expression = some ⟨oc_L_expression, od_L_expression, .func (PySem.W.fnOf "_law_expression" "_law_expression" (defArgs s_L_expression) (defBody s_L_expression) (defScope s_L_expression) .none kV_L_expression dc_L_expression pm_L_expression an_L_expression cd_L_expression ct_L_expression), sl_L_expression⟩) (c_L_expression : PySem.W.codeIn K cd_L_expression "_law_expression" = true) (k_L_expression : PySem.W.keepIn K (.ref f_L_expression) = true)
    (a_L_forms : PySem.W.nsIn K mainGlobals "_law_forms" = some (some (.ref f_L_forms))) (l_L_forms : K.lookup f_L_forms = some ⟨oc_L_forms, od_L_forms, .func (PySem.W.fnOf "_law_forms" "_law_forms" (defArgs s_L_forms) (defBody s_L_forms) (defScope s_L_forms) .none kV_L_forms dc_L_forms pm_L_forms an_L_forms cd_L_forms ct_L_forms), sl_L_forms⟩) (c_L_forms : PySem.W.codeIn K cd_L_forms "_law_forms" = true) (k_L_forms : PySem.W.keepIn K (.ref f_L_forms) = true)
    (a_L_size : PySem.W.nsIn K mainGlobals "_law_size" = some (some (.ref f_L_size))) (l_L_size : K.lookup f_L_size = some ⟨oc_L_size, od_L_size, .func (PySem.W.fnOf "_law_size" "_law_size" (defArgs s_L_size) (defBody s_L_size) (defScope s_L_size) .none kV_L_size dc_L_size pm_L_size an_L_size cd_L_size ct_L_size), sl_L_size⟩) (c_L_size : PySem.W.codeIn K cd_L_size "_law_size" = true) (k_L_size : PySem.W.keepIn K (.ref f_L_size) = true)
    (a_L_is : PySem.W.nsIn K mainGlobals "_law_is" = some (some (.ref f_L_is))) (l_L_is : K.lookup f_L_is = some ⟨oc_L_is, od_L_is, .func (PySem.W.fnOf "_law_is" "_law_is" (defArgs s_L_is) (defBody s_L_is) (defScope s_L_is) .none kV_L_is dc_L_is pm_L_is an_L_is cd_L_is ct_L_is), sl_L_is⟩) (c_L_is : PySem.W.codeIn K cd_L_is "_law_is" = true) (k_L_is : PySem.W.keepIn K (.ref f_L_is) = true)
    (a_L_odd : PySem.W.nsIn K mainGlobals "_law_odd" = some (some (.ref f_L_odd))) (l_L_odd : K.lookup f_L_odd = some ⟨oc_L_odd, od_L_odd, .func (PySem.W.fnOf "_law_odd" "_law_odd" (defArgs s_L_odd) (defBody s_L_odd) (defScope s_L_odd) .none kV_L_odd dc_L_odd pm_L_odd an_L_odd cd_L_odd ct_L_odd), sl_L_odd⟩) (c_L_odd : PySem.W.codeIn K cd_L_odd "_law_odd" = true) (k_L_odd : PySem.W.keepIn K (.ref f_L_odd) = true)
    (a_L_bent : PySem.W.nsIn K mainGlobals "_law_bent" = some (some (.ref f_L_bent))) (l_L_bent : K.lookup f_L_bent = some ⟨oc_L_bent, od_L_bent, .func (PySem.W.fnOf "_law_bent" "_law_bent" (defArgs s_L_bent) (defBody s_L_bent) (defScope s_L_bent) .none kV_L_bent dc_L_bent pm_L_bent an_L_bent cd_L_bent ct_L_bent), sl_L_bent⟩) (c_L_bent : PySem.W.codeIn K cd_L_bent "_law_bent" = true) (k_L_bent : PySem.W.keepIn K (.ref f_L_bent) = true)
    (a_L_right : PySem.W.nsIn K mainGlobals "_law_right" = some (some (.ref f_L_right))) (l_L_right : K.lookup f_L_right = some ⟨oc_L_right, od_L_right, .func (PySem.W.fnOf "_law_right" "_law_right" (defArgs s_L_right) (defBody s_L_right) (defScope s_L_right) .none kV_L_right dc_L_right pm_L_right an_L_right cd_L_right ct_L_right), sl_L_right⟩) (c_L_right : PySem.W.codeIn K cd_L_right "_law_right" = true) (k_L_right : PySem.W.keepIn K (.ref f_L_right) = true)
    (a_law : PySem.W.nsIn K mainGlobals "law" = some (some (.ref f_law))) (l_law : K.lookup f_law = some ⟨oc_law, od_law, .func (PySem.W.fnOf "law" "law" (defArgs s_law) (defBody s_law) (defScope s_law) .none kV_law dc_law pm_law an_law cd_law ct_law), sl_law⟩) (c_law : PySem.W.codeIn K cd_law "law" = true) (k_law : PySem.W.keepIn K (.ref f_law) = true)
    {d_S : Addr} {es_S : Array DictEntry} {n_S : Nat} (a_S : PySem.W.nsIn K mainGlobals "SHAPES" = some (some (.ref d_S))) (l_S : K.lookup d_S = some ⟨.type "dict", none, .dict es_S n_S, #[]⟩) (k_S : PySem.W.KeysLit w.params es_S.toList)
    (w_S : (d_S == sysModules) = false)
    (x_S : ktx es_S.toList = [some ("fig" : Str), some ("reg" : Str), some ("share" : Str), some ("sum" : Str), some ("less" : Str), some ("times" : Str), some ("by" : Str), some ("least" : Str), some ("most" : Str), some ("when" : Str), some ("where" : Str)])
    {q_fig : Addr} {tod_fig : Option Addr} {its_fig : Array Value} {tm_fig : Nat} {tsl_fig : Array (Option Value)} (n_fig : PySem.W.nsIn K d_S "fig" = some (some (.ref q_fig))) (t_fig : K.lookup q_fig = some ⟨.type "tuple", tod_fig, .seq its_fig tm_fig, tsl_fig⟩) (v_fig : Vals [.str "figure"] its_fig.toList)
    {q_reg : Addr} {tod_reg : Option Addr} {its_reg : Array Value} {tm_reg : Nat} {tsl_reg : Array (Option Value)} (n_reg : PySem.W.nsIn K d_S "reg" = some (some (.ref q_reg))) (t_reg : K.lookup q_reg = some ⟨.type "tuple", tod_reg, .seq its_reg tm_reg, tsl_reg⟩) (v_reg : Vals [.str "place"] its_reg.toList)
    {q_share : Addr} {tod_share : Option Addr} {its_share : Array Value} {tm_share : Nat} {tsl_share : Array (Option Value)} (n_share : PySem.W.nsIn K d_S "share" = some (some (.ref q_share))) (t_share : K.lookup q_share = some ⟨.type "tuple", tod_share, .seq its_share tm_share, tsl_share⟩) (v_share : Vals [.str "sign"] its_share.toList)
    {q_sum : Addr} {tod_sum : Option Addr} {its_sum : Array Value} {tm_sum : Nat} {tsl_sum : Array (Option Value)} (n_sum : PySem.W.nsIn K d_S "sum" = some (some (.ref q_sum))) (t_sum : K.lookup q_sum = some ⟨.type "tuple", tod_sum, .seq its_sum tm_sum, tsl_sum⟩) (v_sum : Vals [.str "part", .str "part"] its_sum.toList)
    {q_less : Addr} {tod_less : Option Addr} {its_less : Array Value} {tm_less : Nat} {tsl_less : Array (Option Value)} (n_less : PySem.W.nsIn K d_S "less" = some (some (.ref q_less))) (t_less : K.lookup q_less = some ⟨.type "tuple", tod_less, .seq its_less tm_less, tsl_less⟩) (v_less : Vals [.str "part", .str "part"] its_less.toList)
    {q_times : Addr} {tod_times : Option Addr} {its_times : Array Value} {tm_times : Nat} {tsl_times : Array (Option Value)} (n_times : PySem.W.nsIn K d_S "times" = some (some (.ref q_times))) (t_times : K.lookup q_times = some ⟨.type "tuple", tod_times, .seq its_times tm_times, tsl_times⟩) (v_times : Vals [.str "factor", .str "part"] its_times.toList)
    {q_by : Addr} {tod_by : Option Addr} {its_by : Array Value} {tm_by : Nat} {tsl_by : Array (Option Value)} (n_by : PySem.W.nsIn K d_S "by" = some (some (.ref q_by))) (t_by : K.lookup q_by = some ⟨.type "tuple", tod_by, .seq its_by tm_by, tsl_by⟩) (v_by : Vals [.str "place", .str "part"] its_by.toList)
    {q_least : Addr} {tod_least : Option Addr} {its_least : Array Value} {tm_least : Nat} {tsl_least : Array (Option Value)} (n_least : PySem.W.nsIn K d_S "least" = some (some (.ref q_least))) (t_least : K.lookup q_least = some ⟨.type "tuple", tod_least, .seq its_least tm_least, tsl_least⟩) (v_least : Vals [.str "part", .str "part"] its_least.toList)
    {q_most : Addr} {tod_most : Option Addr} {its_most : Array Value} {tm_most : Nat} {tsl_most : Array (Option Value)} (n_most : PySem.W.nsIn K d_S "most" = some (some (.ref q_most))) (t_most : K.lookup q_most = some ⟨.type "tuple", tod_most, .seq its_most tm_most, tsl_most⟩) (v_most : Vals [.str "part", .str "part"] its_most.toList)
    {q_when : Addr} {tod_when : Option Addr} {its_when : Array Value} {tm_when : Nat} {tsl_when : Array (Option Value)} (n_when : PySem.W.nsIn K d_S "when" = some (some (.ref q_when))) (t_when : K.lookup q_when = some ⟨.type "tuple", tod_when, .seq its_when tm_when, tsl_when⟩) (v_when : Vals [.str "place", .str "figure", .str "part", .str "part"] its_when.toList)
    {q_where : Addr} {tod_where : Option Addr} {its_where : Array Value} {tm_where : Nat} {tsl_where : Array (Option Value)} (n_where : PySem.W.nsIn K d_S "where" = some (some (.ref q_where))) (t_where : K.lookup q_where = some ⟨.type "tuple", tod_where, .seq its_where tm_where, tsl_where⟩) (v_where : Vals [.str "sign", .str "line", .str "part", .str "part"] its_where.toList)
    {d_BOUNDS : Addr} {es_BOUNDS : Array DictEntry} {n_BOUNDS : Nat} (a_BOUNDS : PySem.W.nsIn K mainGlobals "BOUNDS" = some (some (.ref d_BOUNDS))) (l_BOUNDS : K.lookup d_BOUNDS = some ⟨.type "dict", none, .dict es_BOUNDS n_BOUNDS, #[]⟩) (k_BOUNDS : PySem.W.KeysLit w.params es_BOUNDS.toList) (w_BOUNDS : (d_BOUNDS == sysModules) = false)
    {q_BOUNDS_figure : Addr} {tod_BOUNDS_figure : Option Addr} {its_BOUNDS_figure : Array Value} {tm_BOUNDS_figure : Nat} {tsl_BOUNDS_figure : Array (Option Value)} (n_BOUNDS_figure : PySem.W.nsIn K d_BOUNDS "figure" = some (some (.ref q_BOUNDS_figure))) (t_BOUNDS_figure : K.lookup q_BOUNDS_figure = some ⟨.type "tuple", tod_BOUNDS_figure, .seq its_BOUNDS_figure tm_BOUNDS_figure, tsl_BOUNDS_figure⟩) (v_BOUNDS_figure : Vals [.int (-1000), .int (1000)] its_BOUNDS_figure.toList)
    {q_BOUNDS_place : Addr} {tod_BOUNDS_place : Option Addr} {its_BOUNDS_place : Array Value} {tm_BOUNDS_place : Nat} {tsl_BOUNDS_place : Array (Option Value)} (n_BOUNDS_place : PySem.W.nsIn K d_BOUNDS "place" = some (some (.ref q_BOUNDS_place))) (t_BOUNDS_place : K.lookup q_BOUNDS_place = some ⟨.type "tuple", tod_BOUNDS_place, .seq its_BOUNDS_place tm_BOUNDS_place, tsl_BOUNDS_place⟩) (v_BOUNDS_place : Vals [.int (0), .int (3)] its_BOUNDS_place.toList)
    {q_BOUNDS_factor : Addr} {tod_BOUNDS_factor : Option Addr} {its_BOUNDS_factor : Array Value} {tm_BOUNDS_factor : Nat} {tsl_BOUNDS_factor : Array (Option Value)} (n_BOUNDS_factor : PySem.W.nsIn K d_BOUNDS "factor" = some (some (.ref q_BOUNDS_factor))) (t_BOUNDS_factor : K.lookup q_BOUNDS_factor = some ⟨.type "tuple", tod_BOUNDS_factor, .seq its_BOUNDS_factor tm_BOUNDS_factor, tsl_BOUNDS_factor⟩) (v_BOUNDS_factor : Vals [.int (-9), .int (9)] its_BOUNDS_factor.toList)
    {q_BOUNDS_line : Addr} {tod_BOUNDS_line : Option Addr} {its_BOUNDS_line : Array Value} {tm_BOUNDS_line : Nat} {tsl_BOUNDS_line : Array (Option Value)} (n_BOUNDS_line : PySem.W.nsIn K d_BOUNDS "line" = some (some (.ref q_BOUNDS_line))) (t_BOUNDS_line : K.lookup q_BOUNDS_line = some ⟨.type "tuple", tod_BOUNDS_line, .seq its_BOUNDS_line tm_BOUNDS_line, tsl_BOUNDS_line⟩) (v_BOUNDS_line : Vals [.int (1), .int (1000)] its_BOUNDS_line.toList)
    {t_MOST_PARTS : Tok} (i_MOST_PARTS : PySem.W.nsIn K mainGlobals "MOST_PARTS" = some (some (.int (40) t_MOST_PARTS)))
    {t_MOST_DEEP : Tok} (i_MOST_DEEP : PySem.W.nsIn K mainGlobals "MOST_DEEP" = some (some (.int (8) t_MOST_DEEP)))
    (z_len : PySem.W.nsIn K mainGlobals "len" = some none)
    (z_sum : PySem.W.nsIn K mainGlobals "sum" = some none)
    (z_max : PySem.W.nsIn K mainGlobals "max" = some none)
    (z_min : PySem.W.nsIn K mainGlobals "min" = some none)
    (z_abs : PySem.W.nsIn K mainGlobals "abs" = some none)
    (z_int : PySem.W.nsIn K mainGlobals "int" = some none)
    (z_tuple : PySem.W.nsIn K mainGlobals "tuple" = some none)
    (z_range : PySem.W.nsIn K mainGlobals "range" = some none)
    (z_sorted : PySem.W.nsIn K mainGlobals "sorted" = some none)
    (z_zip : PySem.W.nsIn K mainGlobals "zip" = some none)
    (z_isinstance : PySem.W.nsIn K mainGlobals "isinstance" = some none)
    (z_list : PySem.W.nsIn K mainGlobals "list" = some none)
    (z_all : PySem.W.nsIn K mainGlobals "all" = some none)
    (z_repr : PySem.W.nsIn K mainGlobals "repr" = some none)
    (z_str : PySem.W.nsIn K mainGlobals "str" = some none)
    (z_enumerate : PySem.W.nsIn K mainGlobals "enumerate" = some none)
    (z_bool : PySem.W.nsIn K mainGlobals "bool" = some none)
    : ∃ fd : FuncData, (∀ (s : Shared) (v : Value), BindsTo s fd ⟨[v], []⟩ [("_law_script", v)]) ∧ ∀ base : Heap, K.In base → base.Ns mainGlobals mg → FnG l.prog w K mg base 18 fa fd ["_law_script"] (spLaw K) := by
  have e := hfa.symm.trans (PySem.W.mg_of X G a_law)
  cases e
  have F_is_number := fun_mk (st := s_is_number) l_is_number c_is_number k_is_number
  have g_is_number := PySem.W.mg_of X G a_is_number
  have b_is_number := F_is_number.binds (ps := ["thing"]) fun _ _ _ _ _ _ us hl => match us, hl with | [_], _ => rfl
  have F_is_within := fun_mk (st := s_is_within) l_is_within c_is_within k_is_within
  have g_is_within := PySem.W.mg_of X G a_is_within
  have b_is_within := F_is_within.binds (ps := ["thing", "low", "high"]) fun _ _ _ _ _ _ us hl => match us, hl with | [_, _, _], _ => rfl
  have F_fits := fun_mk (st := s_fits) l_fits c_fits k_fits
  have g_fits := PySem.W.mg_of X G a_fits
  have b_fits := F_fits.binds (ps := ["kind", "thing", "many"]) fun _ _ _ _ _ _ us hl => match us, hl with | [_, _, _], _ => rfl
  have F_first_word := fun_mk (st := s_first_word) l_first_word c_first_word k_first_word
  have g_first_word := PySem.W.mg_of X G a_first_word
  have b_first_word := F_first_word.binds (ps := ["thing"]) fun _ _ _ _ _ _ us hl => match us, hl with | [_], _ => rfl
  have F_fits_shape := fun_mk (st := s_fits_shape) l_fits_shape c_fits_shape k_fits_shape
  have g_fits_shape := PySem.W.mg_of X G a_fits_shape
  have b_fits_shape := F_fits_shape.binds (ps := ["thing", "shape", "many"]) fun _ _ _ _ _ _ us hl => match us, hl with | [_, _, _], _ => rfl
  have F_has_shape := fun_mk (st := s_has_shape) l_has_shape c_has_shape k_has_shape
  have g_has_shape := PySem.W.mg_of X G a_has_shape
  have b_has_shape := F_has_shape.binds (ps := ["thing", "many"]) fun _ _ _ _ _ _ us hl => match us, hl with | [_, _], _ => rfl
  have F_parts := fun_mk (st := s_parts) l_parts c_parts k_parts
  have g_parts := PySem.W.mg_of X G a_parts
  have b_parts := F_parts.binds (ps := ["expression"]) fun _ _ _ _ _ _ us hl => match us, hl with | [_], _ => rfl
  have F_count_parts := fun_mk (st := s_count_parts) l_count_parts c_count_parts k_count_parts
  have g_count_parts := PySem.W.mg_of X G a_count_parts
  have b_count_parts := F_count_parts.binds (ps := ["thing", "many", "deep"]) fun _ _ _ _ _ _ us hl => match us, hl with | [_, _, _], _ => rfl
  have F_is_expression := fun_mk (st := s_is_expression) l_is_expression c_is_expression k_is_expression
  have g_is_expression := PySem.W.mg_of X G a_is_expression
  have b_is_expression := F_is_expression.binds (ps := ["thing", "many"]) fun _ _ _ _ _ _ us hl => match us, hl with | [_, _], _ => rfl
  have F_L_hand := fun_mk (st := s_L_hand) l_L_hand c_L_hand k_L_hand
  have g_L_hand := PySem.W.mg_of X G a_L_hand
  have b_L_hand := F_L_hand.binds (ps := ["_law_script", "_law_k"]) fun _ _ _ _ _ _ us hl => match us, hl with | [_, _], _ => rfl
  have F_L_take := fun_mk (st := s_L_take) l_L_take c_L_take k_L_take
  have g_L_take := PySem.W.mg_of X G a_L_take
  have b_L_take := F_L_take.binds (ps := ["_law_hand_here", "_law_signs"]) fun _ _ _ _ _ _ us hl => match us, hl with | [_, _], _ => rfl
  have F_L_of := fun_mk (st := s_L_of) l_L_of c_L_of k_L_of
  have g_L_of := PySem.W.mg_of X G a_L_of
  have b_L_of := F_L_of.binds (ps := ["_law_hand_here", "_law_some"]) fun _ _ _ _ _ _ us hl => match us, hl with | [_, _], _ => rfl
  have F_L_figure := fun_mk (st := s_L_figure) l_L_figure c_L_figure k_L_figure
  have g_L_figure := PySem.W.mg_of X G a_L_figure
  have b_L_figure := F_L_figure.binds (ps := ["_law_hand_here"]) fun _ _ _ _ _ _ us hl => match us, hl with | [_], _ => rfl
  have F_L_leaf := fun_mk (st := s_L_leaf) l_L_leaf c_L_leaf k_L_leaf
  have g_L_leaf := PySem.W.mg_of X G a_L_leaf
  have b_L_leaf := F_L_leaf.binds (ps := ["_law_hand_here", "_law_signs"]) fun _ _ _ _ _ _ us hl => match us, hl with | [_, _], _ => rfl
  have F_L_expression := fun_mk (st := s_L_expression) l_L_expression c_L_expression k_L_expression
  have g_L_expression := PySem.W.mg_of X G a_L_expression
  have b_L_expression := F_L_expression.binds (ps := ["_law_hand_here", "_law_signs", "_law_level", "_law_jumps"]) fun _ _ _ _ _ _ us hl => match us, hl with | [_, _, _, _], _ => rfl
  have F_L_forms := fun_mk (st := s_L_forms) l_L_forms c_L_forms k_L_forms
  have g_L_forms := PySem.W.mg_of X G a_L_forms
  have b_L_forms := F_L_forms.binds (ps := []) fun _ _ _ _ _ _ us hl => match us, hl with | [], _ => rfl
  have F_L_size := fun_mk (st := s_L_size) l_L_size c_L_size k_L_size
  have g_L_size := PySem.W.mg_of X G a_L_size
  have b_L_size := F_L_size.binds (ps := ["_law_item", "_law_signs", "_law_deep"]) fun _ _ _ _ _ _ us hl => match us, hl with | [_, _, _], _ => rfl
  have F_L_is := fun_mk (st := s_L_is) l_L_is c_L_is k_L_is
  have g_L_is := PySem.W.mg_of X G a_L_is
  have b_L_is := F_L_is.binds (ps := ["_law_item", "_law_signs"]) fun _ _ _ _ _ _ us hl => match us, hl with | [_, _], _ => rfl
  have F_L_odd := fun_mk (st := s_L_odd) l_L_odd c_L_odd k_L_odd
  have g_L_odd := PySem.W.mg_of X G a_L_odd
  have b_L_odd := F_L_odd.binds (ps := ["_law_hand_here", "_law_part"]) fun _ _ _ _ _ _ us hl => match us, hl with | [_, _], _ => rfl
  have F_L_bent := fun_mk (st := s_L_bent) l_L_bent c_L_bent k_L_bent
  have g_L_bent := PySem.W.mg_of X G a_L_bent
  have b_L_bent := F_L_bent.binds (ps := ["_law_hand_here", "_law_item"]) fun _ _ _ _ _ _ us hl => match us, hl with | [_, _], _ => rfl
  have F_L_right := fun_mk (st := s_L_right) l_L_right c_L_right k_L_right
  have g_L_right := PySem.W.mg_of X G a_L_right
  have b_L_right := F_L_right.binds (ps := ["_law_item"]) fun _ _ _ _ _ _ us hl => match us, hl with | [_], _ => rfl
  have F_law := fun_mk (st := s_law) l_law c_law k_law
  have g_law := PySem.W.mg_of X G a_law
  have B : Bl mg := ⟨PySem.W.mg_none_of X G z_len, PySem.W.mg_none_of X G z_sum, PySem.W.mg_none_of X G z_max, PySem.W.mg_none_of X G z_min, PySem.W.mg_none_of X G z_abs, PySem.W.mg_none_of X G z_int, PySem.W.mg_none_of X G z_tuple, PySem.W.mg_none_of X G z_range, PySem.W.mg_none_of X G z_sorted, PySem.W.mg_none_of X G z_zip, PySem.W.mg_none_of X G z_isinstance, PySem.W.mg_none_of X G z_list, PySem.W.mg_none_of X G z_all, PySem.W.mg_none_of X G z_repr, PySem.W.mg_none_of X G z_str, PySem.W.mg_none_of X G z_enumerate⟩
  have n_bool := PySem.W.mg_none_of X G z_bool
  have mg_MOST_PARTS := PySem.W.mg_of X G i_MOST_PARTS
  have mg_MOST_DEEP := PySem.W.mg_of X G i_MOST_DEEP
  have mg_BOUNDS := PySem.W.mg_of X G a_BOUNDS
  have hN : TabN K w d_BOUNDS := by
    have mk : ∀ (x : Str) (q : Addr) (od : Option Addr) (its : Array Value) (m : Nat) (sl : Array (Option Value)) (lo hi : Int), PySem.W.nsIn K d_BOUNDS x = some (some (.ref q)) → K.lookup q = some ⟨.type "tuple", od, .seq its m, sl⟩ → Vals [.int lo, .int hi] its.toList → ∃ q, KDct K w d_BOUNDS x (.ref q) ∧ ∀ H, SqT K H q [.int lo, .int hi] := fun x q od its m sl lo hi h1 h2 h3 => ⟨q, ⟨es_BOUNDS, n_BOUNDS, _, l_BOUNDS, k_BOUNDS, h1, rfl⟩, fun H => .inr ⟨_, its, m, h2, rfl, rfl, by
      have h := h3.length
      have e2 : its.toList.length = its.size := Array.length_toList
      simp only [List.length_cons, List.length_nil] at h
      exact Nat.le_of_lt (small1000 (by omega)), h3⟩⟩
    intro k h1 h2
    cases k with
    | part => exact absurd rfl h1
    | sign => exact absurd rfl h2
    | figure => exact mk _ _ _ _ _ _ _ _ n_BOUNDS_figure t_BOUNDS_figure v_BOUNDS_figure
    | place => exact mk _ _ _ _ _ _ _ _ n_BOUNDS_place t_BOUNDS_place v_BOUNDS_place
    | factor => exact mk _ _ _ _ _ _ _ _ n_BOUNDS_factor t_BOUNDS_factor v_BOUNDS_factor
    | line => exact mk _ _ _ _ _ _ _ _ n_BOUNDS_line t_BOUNDS_line v_BOUNDS_line
  have mg_SHAPES := PySem.W.mg_of X G a_S
  have hSh : Shapes K w d_S := by
    have mk : ∀ (x : Str) (q : Addr) (od : Option Addr) (its : Array Value) (m : Nat) (sl : Array (Option Value)) (ks : List Str), ks.length ≤ 4 → PySem.W.nsIn K d_S x = some (some (.ref q)) → K.lookup q = some ⟨.type "tuple", od, .seq its m, sl⟩ → Vals (ks.map V.str) its.toList → ∃ q, KDct K w d_S x (.ref q) ∧ ∀ H, SqT K H q (ks.map V.str) := fun x q od its m sl ks hk h1 h2 h3 => ⟨q, ⟨es_S, n_S, _, l_S, k_S, h1, rfl⟩, fun H => .inr ⟨_, its, m, h2, rfl, rfl, by
      have h := h3.length
      have e2 : its.toList.length = its.size := Array.length_toList
      have e3 : (ks.map V.str).length = ks.length := List.length_map _
      exact Nat.le_of_lt (small1000 (by omega)), h3⟩⟩
    intro e
    cases e with
    | fig _ => exact mk _ _ _ _ _ _ ["figure"] (by decide) n_fig t_fig v_fig
    | reg _ => exact mk _ _ _ _ _ _ ["place"] (by decide) n_reg t_reg v_reg
    | share _ => exact mk _ _ _ _ _ _ ["sign"] (by decide) n_share t_share v_share
    | times _ _ => exact mk _ _ _ _ _ _ ["factor", "part"] (by decide) n_times t_times v_times
    | «by» _ _ => exact mk _ _ _ _ _ _ ["place", "part"] (by decide) n_by t_by v_by
    | when _ _ _ _ => exact mk _ _ _ _ _ _ ["place", "figure", "part", "part"] (by decide) n_when t_when v_when
    | whr _ _ _ _ => exact mk _ _ _ _ _ _ ["sign", "line", "part", "part"] (by decide) n_where t_where v_where
    | two o _ _ =>
      cases o with
      | sum => exact mk _ _ _ _ _ _ ["part", "part"] (by decide) n_sum t_sum v_sum
      | less => exact mk _ _ _ _ _ _ ["part", "part"] (by decide) n_less t_less v_less
      | least => exact mk _ _ _ _ _ _ ["part", "part"] (by decide) n_least t_least v_least
      | most => exact mk _ _ _ _ _ _ ["part", "part"] (by decide) n_most t_most v_most
  have hE : TabE K w d_S := TabE.of hSh w_S
  have hK : KdAt K w d_S := ⟨es_S, n_S, l_S, k_S, w_S⟩
  have hO : Only11 K d_S := only11_of l_S k_S x_S
  refine ⟨PySem.W.fnOf "law" "law" (defArgs s_law) (defBody s_law) (defScope s_law) .none kV_law dc_law pm_law an_law cd_law ct_law, fun s v => .of_eq rfl, fun base _ _ => ?_⟩
  have c_hand := ok_hand (P := l.prog) (w := w) (base := base) F_L_hand g_L_hand b_L_hand B
  have c_take := ok_take (P := l.prog) (w := w) (base := base) F_L_take g_L_take b_L_take
  have c_of := ok_of F_L_of g_L_of b_L_of B c_take
  have c_figure := ok_figure F_L_figure g_L_figure b_L_figure B c_take c_of
  have c_leaf := ok_leaf F_L_leaf g_L_leaf b_L_leaf B c_take c_figure
  have c_expr : (Cal l.prog w K mg base 17 "_law_expression" (spExpr K 5)) := (ok_expr F_L_expression g_L_expression b_L_expression B c_take c_of c_figure c_leaf 5).mono (by decide)
  have c_isnum := ok_isnum (P := l.prog) (w := w) (base := base) F_is_number g_is_number b_is_number B n_bool
  have c_within := ok_iswithin F_is_within g_is_within b_is_within c_isnum
  have c_fits := ok_fits F_fits g_fits b_fits mg_BOUNDS hN c_within
  have c_first := ok_firstword (P := l.prog) (w := w) (base := base) F_first_word g_first_word b_first_word B
  have c_fitssh := ok_fitsshape F_fits_shape g_fits_shape b_fits_shape B c_fits
  have c_hassh := ok_hasshape F_has_shape g_has_shape b_has_shape mg_SHAPES hE hK hO c_first c_fitssh
  have c_partsD := ok_partsD (P := l.prog) (w := w) (base := base) F_parts g_parts b_parts B mg_SHAPES hE
  have c_cntE := ok_cntE F_count_parts g_count_parts b_count_parts c_hassh c_partsD 9
  have f_isex' := fn_isex F_is_expression mg_MOST_DEEP mg_MOST_PARTS c_cntE
  have c_isex : (Cal l.prog w K mg base 16 "is_expression" (spIsEx K)) := ⟨_, _, _, f_isex', g_is_expression, F_is_expression.kp, b_is_expression⟩
  have k_isex : (CalK l.prog w K mg base 16 "is_expression" ["many", "thing"] (spIsEx K)) := ⟨_, _, FnG.of f_isex', g_is_expression, F_is_expression.kp, fun s ws hl => match ws, hl with | [_, _], _ => .of_eq rfl⟩
  have c_forms := ok_forms (P := l.prog) (w := w) (base := base) F_L_forms g_L_forms b_L_forms
  have c_size := ok_size F_L_size g_L_size b_L_size B n_bool c_forms 9
  have c_lis := ok_lisx F_L_is g_L_is b_L_is c_size
  have c_odd := ok_odd F_L_odd g_L_odd b_L_odd B c_of
  have c_bent := ok_bentX F_L_bent g_L_bent b_L_bent B c_take c_odd 10
  have c_right := ok_rightX F_L_right g_L_right b_L_right B c_isex k_isex c_lis
  exact ok_law F_law B (lw := 17) (by decide) c_hand c_take c_expr c_bent c_lis c_right
end NG

open PySem PySem.W PyProof.Rows
set_option maxHeartbeats 0 in
theorem PySem.Challenge.cw_nonegrowsrich_k03_expressions_of_anythin_holds : PySem.Challenge.rw_nonegrowsrich_k03_expressions_of_anythin.Holds := by
  w_on; o_law; k_head; (case hw => w_witness2)
  k_fill
  refine NG.walkG (l := PySem.Challenge.rw_nonegrowsrich_k03_expressions_of_anythin) (n := 63) (k := 18) (x := "_law_script") (sp := fun w => NG.spLaw _) rfl (by decide) rfl ⟨rfl, by decide, by decide⟩ (fun w h Y => PySem.W.kIn_of Y) ?F (fun _ _ a ns hl _ hS => ⟨a, ns, rfl, hS, hl, fun _ => rfl⟩) 
  case F =>
    intro w mg fa h KX G hmg
    refine' NG.all_mk KX G hmg ?a_is_number ?l_is_number ?c_is_number ?k_is_number ?a_is_within ?l_is_within ?c_is_within ?k_is_within ?a_fits ?l_fits ?c_fits ?k_fits ?a_first_word ?l_first_word ?c_first_word ?k_first_word ?a_fits_shape ?l_fits_shape ?c_fits_shape ?k_fits_shape ?a_has_shape ?l_has_shape ?c_has_shape ?k_has_shape ?a_parts ?l_parts ?c_parts ?k_parts ?a_count_parts ?l_count_parts ?c_count_parts ?k_count_parts ?a_is_expression ?l_is_expression ?c_is_expression ?k_is_expression ?a_L_hand ?l_L_hand ?c_L_hand ?k_L_hand ?a_L_take ?l_L_take ?c_L_take ?k_L_take ?a_L_of ?l_L_of ?c_L_of ?k_L_of ?a_L_figure ?l_L_figure ?c_L_figure ?k_L_figure ?a_L_leaf ?l_L_leaf ?c_L_leaf ?k_L_leaf ?a_L_expression ?l_L_expression ?c_L_expression ?k_L_expression ?a_L_forms ?l_L_forms ?c_L_forms ?k_L_forms ?a_L_size ?l_L_size ?c_L_size ?k_L_size ?a_L_is ?l_L_is ?c_L_is ?k_L_is ?a_L_odd ?l_L_odd ?c_L_odd ?k_L_odd ?a_L_bent ?l_L_bent ?c_L_bent ?k_L_bent ?a_L_right ?l_L_right ?c_L_right ?k_L_right ?a_law ?l_law ?c_law ?k_law ?a_S ?l_S ?k_S ?w_S ?x_S ?n_fig ?t_fig ?v_fig ?n_reg ?t_reg ?v_reg ?n_share ?t_share ?v_share ?n_sum ?t_sum ?v_sum ?n_less ?t_less ?v_less ?n_times ?t_times ?v_times ?n_by ?t_by ?v_by ?n_least ?t_least ?v_least ?n_most ?t_most ?v_most ?n_when ?t_when ?v_when ?n_where ?t_where ?v_where ?a_BOUNDS ?l_BOUNDS ?k_BOUNDS ?w_BOUNDS ?n_BOUNDS_figure ?t_BOUNDS_figure ?v_BOUNDS_figure ?n_BOUNDS_place ?t_BOUNDS_place ?v_BOUNDS_place ?n_BOUNDS_factor ?t_BOUNDS_factor ?v_BOUNDS_factor ?n_BOUNDS_line ?t_BOUNDS_line ?v_BOUNDS_line ?i_MOST_PARTS ?i_MOST_DEEP ?z_len ?z_sum ?z_max ?z_min ?z_abs ?z_int ?z_tuple ?z_range ?z_sorted ?z_zip ?z_isinstance ?z_list ?z_all ?z_repr ?z_str ?z_enumerate ?z_bool
    (case a_is_number => k_is); (case l_is_number => k_is); (case c_is_number => k_is); (case k_is_number => k_is); (case a_is_within => k_is); (case l_is_within => k_is); (case c_is_within => k_is); (case k_is_within => k_is); (case a_fits => k_is); (case l_fits => k_is); (case c_fits => k_is); (case k_fits => k_is); (case a_first_word => k_is); (case l_first_word => k_is); (case c_first_word => k_is); (case k_first_word => k_is); (case a_fits_shape => k_is); (case l_fits_shape => k_is); (case c_fits_shape => k_is); (case k_fits_shape => k_is); (case a_has_shape => k_is); (case l_has_shape => k_is); (case c_has_shape => k_is); (case k_has_shape => k_is); (case a_parts => k_is); (case l_parts => k_is); (case c_parts => k_is); (case k_parts => k_is); (case a_count_parts => k_is); (case l_count_parts => k_is); (case c_count_parts => k_is); (case k_count_parts => k_is); (case a_is_expression => k_is); (case l_is_expression => k_is); (case c_is_expression => k_is); (case k_is_expression => k_is); (case a_L_hand => k_is); (case l_L_hand => k_is); (case c_L_hand => k_is); (case k_L_hand => k_is); (case a_L_take => k_is); (case l_L_take => k_is); (case c_L_take => k_is); (case k_L_take => k_is); (case a_L_of => k_is); (case l_L_of => k_is); (case c_L_of => k_is); (case k_L_of => k_is); (case a_L_figure => k_is); (case l_L_figure => k_is); (case c_L_figure => k_is); (case k_L_figure => k_is); (case a_L_leaf => k_is); (case l_L_leaf => k_is); (case c_L_leaf => k_is); (case k_L_leaf => k_is); (case a_L_expression => k_is); (case l_L_expression => k_is); (case c_L_expression => k_is); (case k_L_expression => k_is); (case a_L_forms => k_is); (case l_L_forms => k_is); (case c_L_forms => k_is); (case k_L_forms => k_is); (case a_L_size => k_is); (case l_L_size => k_is); (case c_L_size => k_is); (case k_L_size => k_is); (case a_L_is => k_is); (case l_L_is => k_is); (case c_L_is => k_is); (case k_L_is => k_is); (case a_L_odd => k_is); (case l_L_odd => k_is); (case c_L_odd => k_is); (case k_L_odd => k_is); (case a_L_bent => k_is); (case l_L_bent => k_is); (case c_L_bent => k_is); (case k_L_bent => k_is); (case a_L_right => k_is); (case l_L_right => k_is); (case c_L_right => k_is); (case k_L_right => k_is); (case a_law => k_is); (case l_law => k_is); (case c_law => k_is); (case k_law => k_is); (case a_S => k_is); (case l_S => k_is); (case n_fig => k_is); (case t_fig => k_is); (case n_reg => k_is); (case t_reg => k_is); (case n_share => k_is); (case t_share => k_is); (case n_sum => k_is); (case t_sum => k_is); (case n_less => k_is); (case t_less => k_is); (case n_times => k_is); (case t_times => k_is); (case n_by => k_is); (case t_by => k_is); (case n_least => k_is); (case t_least => k_is); (case n_most => k_is); (case t_most => k_is); (case n_when => k_is); (case t_when => k_is); (case n_where => k_is); (case t_where => k_is); (case a_BOUNDS => k_is); (case l_BOUNDS => k_is); (case n_BOUNDS_figure => k_is); (case t_BOUNDS_figure => k_is); (case n_BOUNDS_place => k_is); (case t_BOUNDS_place => k_is); (case n_BOUNDS_factor => k_is); (case t_BOUNDS_factor => k_is); (case n_BOUNDS_line => k_is); (case t_BOUNDS_line => k_is); (case i_MOST_PARTS => k_is); (case i_MOST_DEEP => k_is); (case z_len => k_is); (case z_sum => k_is); (case z_max => k_is); (case z_min => k_is); (case z_abs => k_is); (case z_int => k_is); (case z_tuple => k_is); (case z_range => k_is); (case z_sorted => k_is); (case z_zip => k_is); (case z_isinstance => k_is); (case z_list => k_is); (case z_all => k_is); (case z_repr => k_is); (case z_str => k_is); (case z_enumerate => k_is); (case z_bool => k_is)
    (case k_S => repeat (first | exact trivial | refine ⟨⟨_, _, rfl, rfl⟩, ?_⟩))
    (case w_S => first | rfl | decide)
    (case x_S => first | rfl | decide +kernel)
    (case v_fig => exact .cons ⟨_, rfl⟩ (.nil))
    (case v_reg => exact .cons ⟨_, rfl⟩ (.nil))
    (case v_share => exact .cons ⟨_, rfl⟩ (.nil))
    (case v_sum => exact .cons ⟨_, rfl⟩ (.cons ⟨_, rfl⟩ (.nil)))
    (case v_less => exact .cons ⟨_, rfl⟩ (.cons ⟨_, rfl⟩ (.nil)))
    (case v_times => exact .cons ⟨_, rfl⟩ (.cons ⟨_, rfl⟩ (.nil)))
    (case v_by => exact .cons ⟨_, rfl⟩ (.cons ⟨_, rfl⟩ (.nil)))
    (case v_least => exact .cons ⟨_, rfl⟩ (.cons ⟨_, rfl⟩ (.nil)))
    (case v_most => exact .cons ⟨_, rfl⟩ (.cons ⟨_, rfl⟩ (.nil)))
    (case v_when => exact .cons ⟨_, rfl⟩ (.cons ⟨_, rfl⟩ (.cons ⟨_, rfl⟩ (.cons ⟨_, rfl⟩ (.nil)))))
    (case v_where => exact .cons ⟨_, rfl⟩ (.cons ⟨_, rfl⟩ (.cons ⟨_, rfl⟩ (.cons ⟨_, rfl⟩ (.nil)))))
    (case k_BOUNDS => repeat (first | exact trivial | refine ⟨⟨_, _, rfl, rfl⟩, ?_⟩))
    (case w_BOUNDS => first | rfl | decide)
    (case v_BOUNDS_figure => exact .cons ⟨_, rfl⟩ (.cons ⟨_, rfl⟩ (.nil)))
    (case v_BOUNDS_place => exact .cons ⟨_, rfl⟩ (.cons ⟨_, rfl⟩ (.nil)))
    (case v_BOUNDS_factor => exact .cons ⟨_, rfl⟩ (.cons ⟨_, rfl⟩ (.nil)))
    (case v_BOUNDS_line => exact .cons ⟨_, rfl⟩ (.cons ⟨_, rfl⟩ (.nil)))

