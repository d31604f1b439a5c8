import PyProof.Rows.All
import Wide.All
import OpenK.AllK
import Wide.FinOn
import HandS.Base
import HandS.Call
import HandS.List
import HandS.Comp
import HandS.Ends
import HandS.Dict
import HandS.Iter
import HandS.Text
import HandS.Words
import HandS.WordsList
import HandS.WordsDict
import HandS.Conv
import HandS.Codes
import HandS.Wide
import HandS.Style
import KE.KTupSum
import HandS.Walk
import HandS.More
import HandS.Zip
import HandS.IsInst
import HandS.NoneIn
import PyProof.ReprRoads
import PyProof.ReprLen
import KE.KRevSl
import HandS.DeepEq
import HandS.TupAny
import HandS.TupMul
import KE.GoesMore
import KE.GoesEnum
import HandS.Sort
import PyProof.FactsAll.tuple_2
import HandS.RaiseMore
import HandS.TupLe
import KE.DataMinMax
import HandS.WideBits
import HandS.Flt
import HandS.Defaults
import PySem.Challenge.RW_nonegrowsrich_k04_expressions_at_their_b
set_option Elab.async false
set_option linter.all false
set_option maxRecDepth 100000
set_option maxHeartbeats 4000000
namespace NG
open PySem PySem.Spec PyProof.Rows L2

/-! ### sum of a tuple -/
theorem cr_sumT {X : Cx} (hc : X.calm = true) : CallR X (.builtin "sum") (fun vs H Q => ∃ (a : Addr) (ns : List Int), vs = [V.ref a] ∧ SqT X.K H a (ns.map V.int) ∧ Q (.int ns.sum) H) := by
  intro pins s σ H vs us Q I r h
  obtain ⟨a, ns, rfl, hs, q⟩ := h
  obtain ⟨its, rv, hl, _⟩ := I.tuple hs
  rw [Vals.ref1 r]
  have hi := rv.ints
  obtain ⟨xs, e⟩ := hi.allInts.items
  have hn : numsOf (intItems xs).toList = ns := by rw [← e]; exact hi.numsOf
  rw [nums_intItems] at hn
  rw [e] at hl
  refine PySem.W.ktm_sumG (I.ok.hd hc) hl fun h' tk t' hk => ?_
  rw [preSum_eq, List.take_of_length_le (by simp), hn]
  exact ⟨.int _, H, I.kept hk, ⟨_, rfl⟩, q⟩

/-! ### rules whose reading names the written part, for a comprehension's block -/
theorem ixl {X : Cx} (K : PySem.W.Frag) (h : X.K = K := by rfl) : IxR X (rIxL K) := by
  subst h
  exact ix_list
theorem ixt {X : Cx} (K : PySem.W.Frag) (h : X.K = K := by rfl) : IxR X (rIxT K) := by
  subst h
  exact ix_tup
theorem lenK {X : Cx} (K : PySem.W.Frag) (h : X.K = K := by rfl) : CallR X (.builtin "len") (fun xs H Q => ∃ p ys, xs = [.ref p] ∧ (SqL K H p ys ∨ SqT K H p ys) ∧ Q (.int ys.length) H) := by
  subst h
  exact call_len_seq
theorem sumT {X : Cx} (K : PySem.W.Frag) (hc : X.calm = true) (h : X.K = K := by rfl) : CallR X (.builtin "sum") (fun vs H Q => ∃ (a : Addr) (ns : List Int), vs = [V.ref a] ∧ SqT K H a (ns.map V.int) ∧ Q (.int ns.sum) H) := by
  subst h
  exact cr_sumT hc
theorem sumL {X : Cx} (K : PySem.W.Frag) (hc : X.calm = true) (h : X.K = K := by rfl) : CallR X (.builtin "sum") (rSum K) := by
  subst h
  exact cr_sum hc

/-! ### short words -/
theorem iteFF {c : Bool} {A B : Prop} (hc : c = false) (h : B) : if c = true then A else B := by
  subst hc
  exact iteF h
theorem iteTT {c : Bool} {A B : Prop} (hc : c = true) (h : A) : if c = true then A else B := by
  subst hc
  exact iteT h
theorem iteD {p : Prop} [Decidable p] {A B : Prop} (h1 : p → A) (h2 : ¬ p → B) : if decide p = true then A else B := by
  by_cases h : p
  · rw [decide_eq_true h]
    exact iteT (h1 h)
  · rw [decide_eq_false h]
    exact iteF (h2 h)
theorem at_mem {xs : List V} {i : Int} (h0 : 0 ≤ i) (h1 : i < xs.length) : ∃ v, atI xs i = some v ∧ v ∈ xs := by
  have hj : i.toNat < xs.length := by omega
  refine ⟨xs[i.toNat], ?_, List.getElem_mem hj⟩
  exact at_of (j := i.toNat) (by omega) (List.getElem?_eq_getElem hj)
theorem at_int {ns : List Int} {i : Int} (h0 : 0 ≤ i) (h1 : i < ns.length) : atI (ns.map V.int) i = some (.int (ns.getD i.toNat 0)) := by
  have hj : i.toNat < ns.length := by omega
  refine at_of (j := i.toNat) (by omega) ?_
  rw [List.getElem?_map, List.getElem?_eq_getElem hj, List.getD_eq_getElem?_getD, List.getElem?_eq_getElem hj]
  rfl

/-- an expression, with a word behind it -/
def tCutE (t : TE) : TE := fun σ H Q => ∃ M : VK, t σ H M ∧ ∀ v H', M v H' → Q v H'
theorem pe_cut {X : Cx} {e : Expr} {t : TE} (h : PE X e t) : PE X e (tCutE t) :=
  ⟨fun pins s σ H Q I ⟨M, hm, hq⟩ => thn (h.run pins s σ H M I hm) fun u s1 ⟨x, H1, I1, r, q⟩ => ⟨x, H1, I1, r, hq _ _ q⟩⟩

/-! ### heaps: all but one object is as it was -/
def But (a : Addr) (H H' : Hp) : Prop := ∀ b o, b ≠ a → H b = some o → H' b = some o
theorem But.refl (a : Addr) (H : Hp) : But a H H := fun _ _ _ h => h
theorem But.trans {a : Addr} {H H1 H2 : Hp} (x : But a H H1) (y : But a H1 H2) : But a H H2 := fun b o n h => y b o n (x b o n h)
theorem But.of {a : Addr} {H H' : Hp} (x : Same H H') : But a H H' := fun b o _ h => x b o h
theorem But.new {a p : Addr} {H : Hp} {o : HO} (h : H p = none) : But a H (upd H p o) := fun b u _ e => by
  rw [upd_ne (ne_of_none e h)]
  exact e
theorem But.put {a : Addr} {H : Hp} {o : HO} : But a H (upd H a o) := fun b u n e => by
  rw [upd_ne n]
  exact e
theorem But.same {a : Addr} {H H' : Hp} (x : But a H H') (h : H a = none) : Same H H' := fun b o e => x b o (ne_of_none e h) e
theorem same_new {p : Addr} {H : Hp} {o : HO} (h : H p = none) : Same H (upd H p o) := fun b u e => by
  rw [upd_ne (ne_of_none e h)]
  exact e
theorem But.free {a b : Addr} {H H' : Hp} {o : HO} (x : But a H H') (h : H a = some o) (n : H' b = none) (n2 : H' a ≠ none) : H b = none := by
  cases q : H b with
  | none => rfl
  | some u =>
    by_cases e : b = a
    · subst e
      exact absurd n n2
    · rw [x b u e q] at n
      cases n
theorem But.sqt {a p : Addr} {H H' : Hp} {K : PySem.W.Frag} {l xs : List V} (x : But a H H') (h : H a = some (.lst l)) (q : SqT K H p xs) : SqT K H' p xs := by
  rcases q with (q | ⟨o, q⟩) | q
  · exact .inl (.inl (x _ _ (ne_of q h (by intro z; cases z)) q))
  · exact .inl (.inr ⟨o, x _ _ (ne_of q h (by intro z; cases z)) q⟩)
  · exact .inr q
theorem same_sqt {p : Addr} {H H' : Hp} {K : PySem.W.Frag} {xs : List V} (x : Same H H') (q : SqT K H p xs) : SqT K H' p xs := by
  rcases q with (q | ⟨o, q⟩) | q
  · exact .inl (.inl (x _ _ q))
  · exact .inl (.inr ⟨o, x _ _ q⟩)
  · exact .inr q

/-! ### the hand -/
def HandAt (H : Hp) (a : Addr) (n : Nat) : Prop := ∃ g s m : Int, H a = some (.lst [.int g, .int s, .int m]) ∧ 0 ≤ g ∧ 0 ≤ s ∧ 0 ≤ m ∧ m ≤ n
theorem HandAt.le {H : Hp} {a : Addr} {n k : Nat} (h : HandAt H a n) (l : n ≤ k) : HandAt H a k := by
  obtain ⟨g, s, m, e, h1, h2, h3, h4⟩ := h
  exact ⟨g, s, m, e, h1, h2, h3, by omega⟩
theorem HandAt.new {H : Hp} {a p : Addr} {n : Nat} {o : HO} (h : HandAt H a n) (hp : H p = none) : HandAt (upd H p o) a n := by
  obtain ⟨g, s, m, e, h1, h2, h3, h4⟩ := h
  exact ⟨g, s, m, by rw [upd_ne (ne_of_none e hp)]; exact e, h1, h2, h3, h4⟩
theorem HandAt.put {H : Hp} {a p : Addr} {n : Nat} {o : HO} (h : HandAt H a n) (hp : p ≠ a) : HandAt (upd H p o) a n := by
  obtain ⟨g, s, m, e, h1, h2, h3, h4⟩ := h
  exact ⟨g, s, m, by rw [upd_ne (Ne.symm hp)]; exact e, h1, h2, h3, h4⟩
theorem HandAt.ne {H : Hp} {a p : Addr} {n : Nat} (h : HandAt H a n) (hp : H p = none) : p ≠ a := by
  obtain ⟨g, s, m, e, _⟩ := h
  exact (ne_of_none e hp).symm
theorem HandAt.some {H : Hp} {a : Addr} {n : Nat} (h : HandAt H a n) : ∃ l, H a = some (.lst l) := by
  obtain ⟨g, s, m, e, _⟩ := h
  exact ⟨_, e⟩
theorem But.sq {a p : Addr} {H H' : Hp} {K : PySem.W.Frag} {n : Nat} {xs : List V} (x : But a H H') (h : HandAt H a n) (q : SqT K H p xs) : SqT K H' p xs := by
  obtain ⟨l, e⟩ := h.some
  exact x.sqt e q

structure Bl (mg : Str → Option Value) : Prop where
  len : mg "len" = none
  sum : mg "sum" = none
  max : mg "max" = none
  min : mg "min" = none
  abs : mg "abs" = none
  int : mg "int" = none
  tuple : mg "tuple" = none
  range : mg "range" = none
  sorted : mg "sorted" = none
  zip : mg "zip" = none
  isinstance : mg "isinstance" = none
  list : mg "list" = none
  all : mg "all" = none
  repr : mg "repr" = none
  str : mg "str" = none
  enumerate : mg "enumerate" = none

/-! ### a def that may be called by its name -/
structure Cal (P : Program) (w : World) (K : PySem.W.Frag) (mg : Str → Option Value) (base : Heap) (k : Nat) (x : Str) (sp : Sp) : Prop where
  ex : ∃ (f : Addr) (fd : FuncData) (ps : List Str), FnOk P w K mg base CX0 k f fd ps sp ∧ mg x = some (.ref f) ∧ PySem.W.keepIn K (.ref f) = true ∧ Binds K fd ps []
section
variable {X : Cx} {k j : Nat} {x : Str} {sp : Sp} {p pos : Pos} {e : Expr} {es : List Expr} {t : TA}
theorem pe_c (c : Cal X.prog X.w X.K X.mg X.base k x sp) (hr : Room j X.A) (hk : k ≤ j) (hg : Gl X x) (ha : PA X (e :: es) t)
    (hdb : (x == ("__debug__" : Str)) = false := by decide) (he : starEach (e :: es) X.env = (false, eval e X.env) :: starEach es X.env := by rfl) (hpl : (backTo pos (starEach es X.env)).any (·.1) = false := by rfl) :
    PE X (.Call (.Name x p) (e :: es) [] pos) (tCall sp [] E0 t) := by
  obtain ⟨f, fd, ps, F, hm, kp, b⟩ := c.ex
  exact pe_call F (hr.mono hk) hg hm kp b .nil pass0 ha hdb he hpl
end
theorem Cal.mono {P : Program} {w : World} {K : PySem.W.Frag} {mg : Str → Option Value} {base : Heap} {j k : Nat} {x : Str} {sp : Sp} (c : Cal P w K mg base j x sp) (h : j ≤ k) : Cal P w K mg base k x sp := by
  obtain ⟨f, fd, ps, F, r⟩ := c.ex
  exact ⟨f, fd, ps, F.mono h, r⟩

/-! ### promises of the draws -/
def spTake : Sp := fun vs H Q _ => ∃ (a : Addr) (many : Int) (n : Nat), vs = [.ref a, .int many] ∧ 0 < many ∧ many < 2 ^ 62 ∧ HandAt H a n ∧ n ≤ 1000000000 ∧
  ∀ H' r, But a H H' → HandAt H' a (n + 1) → 0 ≤ r → r < many → Q (.int r) H'
def spHand (K : PySem.W.Frag) : Sp := fun vs H Q _ => ∃ (a : Addr) (k : Int) (ns : List Int), vs = [.ref a, .int k] ∧ 0 ≤ k ∧ k < 1000 ∧ SqL K H a (ns.map V.int) ∧
  ∀ p g s, H p = none → 0 ≤ g → 0 ≤ s → Q (.ref p) (upd H p (.lst [.int g, .int s, .int 0]))
/-- an item of a list that is given -/
def spOf (K : PySem.W.Frag) : Sp := fun vs H Q _ => ∃ (a b : Addr) (xs : List V) (n : Nat), vs = [.ref a, .ref b] ∧ a ≠ b ∧ H b = some (.lst xs) ∧ 0 < xs.length ∧ xs.length ≤ 1000 ∧ HandAt H a n ∧ n ≤ 1000000000 ∧
  ∀ H' v, But a H H' → HandAt H' a (n + 1) → v ∈ xs → Q v H'
def spFigure : Sp := fun vs H Q _ => ∃ (a : Addr) (n : Nat), vs = [.ref a] ∧ HandAt H a n ∧ n ≤ 999999990 ∧
  ∀ H' c, But a H H' → HandAt H' a (n + 3) → -1000 ≤ c → c ≤ 1000 → Q (.int c) H'
end NG

namespace NG
open PySem PySem.Spec PyProof.Rows L2

/-! ### expressions -/
inductive W4 where
  | sum | less | least | most
  deriving DecidableEq
def wn : W4 → Str
  | .sum => "sum"
  | .less => "less"
  | .least => "least"
  | .most => "most"
inductive Ex where
  | fig (c : Int) | reg (i : Nat) | share (j : Nat)
  | two (w : W4) (a b : Ex)
  | times (f : Int) (a : Ex) | by (i : Nat) (a : Ex)
  | when (i : Nat) (c : Int) (a b : Ex) | whr (j : Nat) (c : Int) (a b : Ex)
def ExAt (K : PySem.W.Frag) (H : Hp) : Ex → V → Prop
  | .fig c, v => ∃ p, v = .ref p ∧ SqT K H p [.str "fig", .int c]
  | .reg i, v => ∃ p, v = .ref p ∧ SqT K H p [.str "reg", .int (i : Int)]
  | .share j, v => ∃ p, v = .ref p ∧ SqT K H p [.str "share", .int (j : Int)]
  | .two w a b, v => ∃ p x y, v = .ref p ∧ SqT K H p [.str (wn w), x, y] ∧ ExAt K H a x ∧ ExAt K H b y
  | .times f a, v => ∃ p x, v = .ref p ∧ SqT K H p [.str "times", .int f, x] ∧ ExAt K H a x
  | .by i a, v => ∃ p x, v = .ref p ∧ SqT K H p [.str "by", .int (i : Int), x] ∧ ExAt K H a x
  | .when i c a b, v => ∃ p x y, v = .ref p ∧ SqT K H p [.str "when", .int (i : Int), .int c, x, y] ∧ ExAt K H a x ∧ ExAt K H b y
  | .whr j c a b, v => ∃ p x y, v = .ref p ∧ SqT K H p [.str "where", .int (j : Int), .int c, x, y] ∧ ExAt K H a x ∧ ExAt K H b y
theorem ExAt.imp {K : PySem.W.Frag} {H H' : Hp} (h : ∀ p xs, SqT K H p xs → SqT K H' p xs) : ∀ {e : Ex} {v : V}, ExAt K H e v → ExAt K H' e v
  | .fig _, _, ⟨p, e, q⟩ => ⟨p, e, h _ _ q⟩
  | .reg _, _, ⟨p, e, q⟩ => ⟨p, e, h _ _ q⟩
  | .share _, _, ⟨p, e, q⟩ => ⟨p, e, h _ _ q⟩
  | .two _ _ _, _, ⟨p, x, y, e, q, a, b⟩ => ⟨p, x, y, e, h _ _ q, ExAt.imp h a, ExAt.imp h b⟩
  | .times _ _, _, ⟨p, x, e, q, a⟩ => ⟨p, x, e, h _ _ q, ExAt.imp h a⟩
  | .by _ _, _, ⟨p, x, e, q, a⟩ => ⟨p, x, e, h _ _ q, ExAt.imp h a⟩
  | .when _ _ _ _, _, ⟨p, x, y, e, q, a, b⟩ => ⟨p, x, y, e, h _ _ q, ExAt.imp h a, ExAt.imp h b⟩
  | .whr _ _ _ _, _, ⟨p, x, y, e, q, a, b⟩ => ⟨p, x, y, e, h _ _ q, ExAt.imp h a, ExAt.imp h b⟩
theorem ExAt.but {K : PySem.W.Frag} {H H' : Hp} {a : Addr} {n : Nat} {e : Ex} {v : V} (x : ExAt K H e v) (b : But a H H') (h : HandAt H a n) : ExAt K H' e v := x.imp fun _ _ q => b.sq h q
theorem ExAt.same {K : PySem.W.Frag} {H H' : Hp} {e : Ex} {v : V} (x : ExAt K H e v) (b : Same H H') : ExAt K H' e v := x.imp fun _ _ q => same_sqt b q
theorem ExAt.new {K : PySem.W.Frag} {H : Hp} {p : Addr} {o : HO} {e : Ex} {v : V} (x : ExAt K H e v) (n : H p = none) : ExAt K (upd H p o) e v := x.same (same_new n)
def ExOk (many : Nat) : Ex → Prop
  | .fig c => -1000 ≤ c ∧ c ≤ 1000
  | .reg i => i < 4
  | .share j => j < many
  | .two _ a b => ExOk many a ∧ ExOk many b
  | .times f a => (-9 ≤ f ∧ f ≤ 9) ∧ ExOk many a
  | .by i a => i < 4 ∧ ExOk many a
  | .when i c a b => i < 4 ∧ (-1000 ≤ c ∧ c ≤ 1000) ∧ ExOk many a ∧ ExOk many b
  | .whr j c a b => j < many ∧ (1 ≤ c ∧ c ≤ 1000) ∧ ExOk many a ∧ ExOk many b
def Ex.dep : Ex → Nat
  | .fig _ => 1
  | .reg _ => 1
  | .share _ => 1
  | .two _ a b => max a.dep b.dep + 1
  | .times _ a => a.dep + 1
  | .by _ a => a.dep + 1
  | .when _ _ a b => max a.dep b.dep + 1
  | .whr _ _ a b => max a.dep b.dep + 1
def jw : W4 → Int → Int → Int
  | .sum, x, y => x + y
  | .less, x, y => x - y
  | .least, x, y => if y < x then y else x
  | .most, x, y => if y > x then y else x
def wo (rs ss : List Int) : Ex → Int
  | .fig c => c * ss.sum
  | .reg i => rs.getD i 0 * ss.sum
  | .share j => 1000 * ss.getD j 0
  | .two w a b => jw w (wo rs ss a) (wo rs ss b)
  | .times f a => f * wo rs ss a
  | .by i a => rs.getD i 0 * wo rs ss a
  | .when i c a b => if rs.getD i 0 < c then wo rs ss a else wo rs ss b
  | .whr j c a b => if 1000 * ss.getD j 0 < c * ss.sum then wo rs ss a else wo rs ss b
theorem at_nth {ns : List Int} {i : Nat} (h : i < ns.length) : atI (ns.map V.int) (i : Int) = some (.int (ns.getD i 0)) := at_int (by omega) (by omega)

def RegsAt (K : PySem.W.Frag) (H : Hp) (rs : List Int) (v : V) : Prop := ∃ p, v = .ref p ∧ SqT K H p (rs.map V.int) ∧ rs.length = 4 ∧ ∀ x ∈ rs, -1000 ≤ x ∧ x ≤ 1000
def ShAt (K : PySem.W.Frag) (H : Hp) (many : Nat) (ss : List Int) (v : V) : Prop := ∃ p, v = .ref p ∧ SqT K H p (ss.map V.int) ∧ ss.length = many ∧ (∀ x ∈ ss, 0 ≤ x ∧ x < 2 ^ 50) ∧ 0 < ss.sum ∧ ss.sum < 2 ^ 60
theorem RegsAt.imp {K : PySem.W.Frag} {H H' : Hp} {rs : List Int} {v : V} (r : RegsAt K H rs v) (h : ∀ p xs, SqT K H p xs → SqT K H' p xs) : RegsAt K H' rs v := by
  obtain ⟨p, e, q, l⟩ := r
  exact ⟨p, e, h _ _ q, l⟩
theorem ShAt.imp {K : PySem.W.Frag} {H H' : Hp} {many : Nat} {rs : List Int} {v : V} (r : ShAt K H many rs v) (h : ∀ p xs, SqT K H p xs → SqT K H' p xs) : ShAt K H' many rs v := by
  obtain ⟨p, e, q, l⟩ := r
  exact ⟨p, e, h _ _ q, l⟩
theorem getD_mem {ns : List Int} {i : Nat} (h : i < ns.length) : ns.getD i 0 ∈ ns := by
  rw [List.getD_eq_getElem?_getD, List.getElem?_eq_getElem h]
  exact List.getElem_mem h

/-! ### promises -/
def spWorth (K : PySem.W.Frag) (n : Nat) : Sp := fun vs H Q _ => ∃ (v r s : V) (e : Ex) (many : Nat) (rs ss : List Int), vs = [v, r, s] ∧ ExAt K H e v ∧ ExOk many e ∧ e.dep ≤ n ∧ RegsAt K H rs r ∧ ShAt K H many ss s ∧ Q (.int (wo rs ss e)) H
def spJoinW : Sp := fun vs H Q _ => ∃ (w : W4) (x y : Int), vs = [.str (wn w), .int x, .int y] ∧ Q (.int (jw w x y)) H
def spLed (K : PySem.W.Frag) : Sp := fun vs H Q _ => ∃ (p : Addr) (r x y : V) (i : Nat) (c : Int) (rs : List Int), vs = [.ref p, r] ∧ SqT K H p [.str "when", .int (i : Int), .int c, x, y] ∧ i < 4 ∧ RegsAt K H rs r ∧ Q (if rs.getD i 0 < c then x else y) H
def spSide (K : PySem.W.Frag) : Sp := fun vs H Q _ => ∃ (p : Addr) (s x y : V) (many j : Nat) (c : Int) (ss : List Int), vs = [.ref p, s] ∧ SqT K H p [.str "where", .int (j : Int), .int c, x, y] ∧ j < many ∧ (1 ≤ c ∧ c ≤ 1000) ∧ ShAt K H many ss s ∧ Q (if 1000 * ss.getD j 0 < c * ss.sum then x else y) H
def spMills (K : PySem.W.Frag) : Sp := fun vs H Q _ => ∃ (s : V) (many j : Nat) (ss : List Int), vs = [s, .int (j : Int)] ∧ ShAt K H many ss s ∧ j < many ∧ Q (.int (1000 * ss.getD j 0 / ss.sum)) H
def cost : Nat → Nat
  | 0 => 6
  | n + 1 => 2 * cost n + 20
theorem cost_ge (l : Nat) : 6 ≤ cost l := by
  cases l with
  | zero => exact Nat.le_refl _
  | succ l =>
    unfold cost
    omega
def spLeaf (K : PySem.W.Frag) : Sp := fun vs H Q _ => ∃ (a : Addr) (many n : Nat), vs = [.ref a, .int (many : Int)] ∧ 1 ≤ many ∧ many ≤ 1000 ∧ HandAt H a n ∧ n ≤ 999999000 ∧
  ∀ H' v e, But a H H' → HandAt H' a (n + 5) → ExAt K H' e v → ExOk many e → e.dep ≤ 1 → Q v H'
def spExpr (K : PySem.W.Frag) (m : Nat) : Sp := fun vs H Q _ => ∃ (a : Addr) (many l n : Nat), vs = [.ref a, .int (many : Int), .int (l : Int), .int 1] ∧ l < m ∧ 1 ≤ many ∧ many ≤ 1000 ∧ HandAt H a n ∧ n + cost l ≤ 999999000 ∧
  ∀ H' v e, But a H H' → HandAt H' a (n + cost l) → ExAt K H' e v → ExOk many e → e.dep ≤ l + 1 → Q v H'
theorem cal_never {P : Program} {w : World} {K : PySem.W.Frag} {mg : Str → Option Value} {base : Heap} {k : Nat} {x qual : Str} {st : Stmt} {f : Addr} {fd : FuncData} {ps : List Str} {sp : Sp} (F : Fun K x qual st f fd) (gF : mg x = some (.ref f)) (b : Binds K fd ps []) (h : ∀ vs H Q E, ¬ sp vs H Q E) : Cal P w K mg base k x sp :=
  ⟨f, fd, ps, ⟨fun vs H Q E q => absurd q (h _ _ _ _), fun A outer s H args us vs Q E _ _ _ _ q => absurd q (h _ _ _ _)⟩, gF, F.kp, b⟩
theorem fn_never {P : Program} {w : World} {K : PySem.W.Frag} {mg : Str → Option Value} {base : Heap} {k : Nat} {f : Addr} {fd : FuncData} {ps : List Str} {sp : Sp} (h : ∀ vs H Q E, ¬ sp vs H Q E) : FnOk P w K mg base CX0 k f fd ps sp :=
  ⟨fun vs H Q E q => absurd q (h _ _ _ _), fun A outer s H args us vs Q E _ _ _ _ q => absurd q (h _ _ _ _)⟩
end NG

namespace NG
open PySem PySem.Spec PyProof.Rows L2

/-! ### the greatest that divides all -/
def gf (g : Nat) (x : Int) : Nat := Nat.gcd g x.toNat
def gl (ns : List Int) : Nat := ns.foldl gf 0
theorem gl_step {ns : List Int} {i : Nat} {x : Int} (h : ns[i]? = some x) : gl (ns.take (i + 1)) = Nat.gcd (gl (ns.take i)) x.toNat := by
  unfold gl
  rw [List.take_add_one, h, List.foldl_append]
  rfl
theorem gf_dvd : ∀ (ns : List Int) (g : Nat), ns.foldl gf g ∣ g ∧ ∀ x ∈ ns, ns.foldl gf g ∣ x.toNat
  | [], g => ⟨Nat.dvd_refl _, fun x h => by cases h⟩
  | y :: ns, g => by
    obtain ⟨h1, h2⟩ := gf_dvd ns (gf g y)
    refine ⟨Nat.dvd_trans h1 (Nat.gcd_dvd_left _ _), fun x hx => ?_⟩
    rcases List.mem_cons.mp hx with rfl | hx
    · exact Nat.dvd_trans h1 (Nat.gcd_dvd_right _ _)
    · exact h2 x hx
theorem gl_dvd {ns : List Int} {x : Int} (h : x ∈ ns) : gl ns ∣ x.toNat := (gf_dvd ns 0).2 x h
theorem gl_pos {ns : List Int} {x : Int} (h : x ∈ ns) (p : 0 < x) : 0 < gl ns := Nat.pos_of_dvd_of_pos (gl_dvd h) (by omega)
theorem sum_nonneg : ∀ {ms : List Int}, (∀ x ∈ ms, 0 ≤ x) → 0 ≤ ms.sum
  | [], _ => by simp
  | y :: ms, h => by
    have := sum_nonneg (ms := ms) fun x hx => h x (List.mem_cons_of_mem _ hx)
    have := h y List.mem_cons_self
    rw [List.sum_cons]
    omega
theorem sum_pos : ∀ {ms : List Int} {x : Int}, (∀ x ∈ ms, 0 ≤ x) → x ∈ ms → 0 < x → 0 < ms.sum
  | y :: ms, x, h, hx, p => by
    have h1 := sum_nonneg (ms := ms) fun x hx => h x (List.mem_cons_of_mem _ hx)
    have h2 := h y List.mem_cons_self
    rw [List.sum_cons]
    rcases List.mem_cons.mp hx with rfl | hx
    · omega
    · have := sum_pos (ms := ms) (fun x hx => h x (List.mem_cons_of_mem _ hx)) hx p
      omega
theorem sum_le {B : Int} : ∀ {ms : List Int}, (∀ x ∈ ms, x ≤ B) → ms.sum ≤ ms.length * B
  | [], _ => by simp
  | y :: ms, h => by
    have h1 := sum_le (ms := ms) fun x hx => h x (List.mem_cons_of_mem _ hx)
    have h2 := h y List.mem_cons_self
    rw [List.sum_cons, List.length_cons, Int.natCast_succ, Int.add_mul]
    omega
theorem div_le_self' {x : Int} {g : Nat} (h : 0 ≤ x) : x / (g : Int) ≤ x := Int.ediv_le_self _ h
/-- what lowest makes -/
def low (ns : List Int) : List Int := ns.map fun x => x / (gl ns : Int)
theorem low_sh {ns : List Int} (hb : ∀ x ∈ ns, 0 ≤ x ∧ x < 2 ^ 50) (hl : ns.length ≤ 1000) {y : Int} (hy : y ∈ ns) (py : 0 < y) :
    (∀ x ∈ low ns, 0 ≤ x ∧ x < 2 ^ 50) ∧ 0 < (low ns).sum ∧ (low ns).sum < 2 ^ 60 := by
  have hg := gl_pos hy py
  have h1 : ∀ x ∈ low ns, 0 ≤ x ∧ x < 2 ^ 50 := fun x hx => by
    obtain ⟨z, hz, rfl⟩ := List.mem_map.mp hx
    have h2 := hb z hz
    exact ⟨Int.ediv_nonneg h2.1 (by omega), Int.lt_of_le_of_lt (div_le_self' h2.1) h2.2⟩
  refine ⟨h1, ?_, ?_⟩
  · refine sum_pos (x := y / (gl ns : Int)) (fun x hx => (h1 x hx).1) (List.mem_map.mpr ⟨y, hy, rfl⟩) ?_
    have hd : (gl ns : Nat) ≤ y.toNat := Nat.le_of_dvd (by omega) (gl_dvd hy)
    exact Int.ediv_pos_of_pos_of_dvd py (by omega) (by
      have : ((gl ns : Nat) : Int) ∣ ((y.toNat : Nat) : Int) := Int.natCast_dvd_natCast.mpr (gl_dvd hy)
      rwa [Int.toNat_of_nonneg (by omega)] at this)
  · have h3 := sum_le (B := 2 ^ 50) (ms := low ns) fun x hx => Int.le_of_lt (h1 x hx).2
    have h4 : (low ns).length ≤ 1000 := by
      unfold low
      rw [List.length_map]
      exact hl
    have h5 : ((low ns).length : Int) * 2 ^ 50 ≤ 1000 * 2 ^ 50 := Int.mul_le_mul_of_nonneg_right (by omega) (by decide)
    have h6 : (1000 : Int) * 2 ^ 50 < 2 ^ 60 := by decide
    omega
theorem gcd_turn {u v : Nat} : Nat.gcd v (u % v) = Nat.gcd u v := by
  rw [Nat.gcd_comm v, ← Nat.gcd_rec, Nat.gcd_comm]
theorem ixN_of {n : Nat} {r : Int} (h0 : 0 ≤ r) (h1 : r < n) : ixN n r = some r.toNat := by
  unfold ixN
  rw [if_pos h0, if_pos h1]

theorem tYes_in {σ : L2.St} {H : Hp} {A B : Hp → Prop} (h : A H) : tYes σ H (fun b H3 => if b = true then A H3 else B H3) := by
  show if true = true then A H else B H
  exact iteT h

/-! ### promises -/
def spLow (K : PySem.W.Frag) : Sp := fun vs H Q _ => ∃ (p : Addr) (ns : List Int) (y : Int), vs = [.ref p] ∧ H p = some (.lst (ns.map V.int)) ∧ (∀ x ∈ ns, 0 ≤ x ∧ x < 2 ^ 50) ∧ ns.length ≤ 1000 ∧ y ∈ ns ∧ 0 < y ∧
  ∀ H' v ms, Same H H' → ShAt K H' ns.length ms v → Q v H'
def spShares (K : PySem.W.Frag) : Sp := fun vs H Q _ => ∃ (a : Addr) (many n : Nat), vs = [.ref a, .int (many : Int)] ∧ 1 ≤ many ∧ many ≤ 3 ∧ HandAt H a n ∧ n ≤ 999998000 ∧
  ∀ H' v ms, But a H H' → HandAt H' a (n + 20) → ShAt K H' many ms v → Q v H'
def spRegs (K : PySem.W.Frag) : Sp := fun vs H Q _ => ∃ (a : Addr) (n : Nat), vs = [.ref a] ∧ HandAt H a n ∧ n ≤ 999998000 ∧
  ∀ H' v rs, But a H H' → HandAt H' a (n + 12) → RegsAt K H' rs v → Q v H'
def spAsked (K : PySem.W.Frag) : Sp := fun vs H Q _ => ∃ (a : Addr) (many n : Nat), vs = [.ref a, .int (many : Int)] ∧ 2 ≤ many ∧ many ≤ 3 ∧ HandAt H a n ∧ n ≤ 999997000 ∧
  ∀ H' v ms, But a H H' → HandAt H' a (n + 25) → ShAt K H' many ms v → Q v H'
end NG

namespace NG
open PySem PySem.Spec PyProof.Rows L2
/-! ### rows of expressions -/
def RowsAt (K : PySem.W.Frag) (H : Hp) : List V → List Ex → Prop
  | [], [] => True
  | v :: vs, e :: es => ExAt K H e v ∧ RowsAt K H vs es
  | _, _ => False
theorem RowsAt.imp {K : PySem.W.Frag} {H H' : Hp} (h : ∀ p xs, SqT K H p xs → SqT K H' p xs) : ∀ {vs : List V} {es : List Ex}, RowsAt K H vs es → RowsAt K H' vs es
  | [], [], _ => trivial
  | _ :: _, _ :: _, ⟨x, r⟩ => ⟨x.imp h, RowsAt.imp h r⟩
theorem RowsAt.same {K : PySem.W.Frag} {H H' : Hp} {vs : List V} {es : List Ex} (r : RowsAt K H vs es) (s : Same H H') : RowsAt K H' vs es := r.imp fun _ _ q => same_sqt s q
theorem RowsAt.len {K : PySem.W.Frag} {H : Hp} : ∀ {vs : List V} {es : List Ex}, RowsAt K H vs es → vs.length = es.length
  | [], [], _ => rfl
  | _ :: _, _ :: _, ⟨_, r⟩ => by rw [List.length_cons, List.length_cons, r.len]
theorem RowsAt.snoc {K : PySem.W.Frag} {H : Hp} {v : V} {e : Ex} (x : ExAt K H e v) : ∀ {vs : List V} {es : List Ex}, RowsAt K H vs es → RowsAt K H (vs ++ [v]) (es ++ [e])
  | [], [], _ => ⟨x, trivial⟩
  | _ :: _, _ :: _, ⟨y, r⟩ => ⟨y, RowsAt.snoc x r⟩
theorem RowsAt.get {K : PySem.W.Frag} {H : Hp} : ∀ {vs : List V} {es : List Ex} {k : Nat} {e : Ex}, RowsAt K H vs es → es[k]? = some e → ∃ v, vs[k]? = some v ∧ ExAt K H e v
  | [], [], _, _, _, h => by simp at h
  | v :: vs, e' :: es, 0, e, ⟨x, r⟩, h => by
    have : e' = e := Option.some.inj h
    subst this
    exact ⟨v, rfl, x⟩
  | v :: vs, e' :: es, k + 1, e, ⟨x, r⟩, h => RowsAt.get (k := k) r h
def pairUp : List Ex → List Ex
  | a :: b :: r => .two .sum a b :: pairUp r
  | _ => []
theorem pairUp_get : ∀ {es : List Ex} {k : Nat} {a b : Ex}, es[2 * k]? = some a → es[2 * k + 1]? = some b → (pairUp es)[k]? = some (.two .sum a b)
  | [], k, _, _, h, _ => by simp at h
  | [_], k, _, _, _, h => by
    have := (List.getElem?_eq_some_iff.mp h).1
    rw [List.length_singleton] at this
    omega
  | x :: y :: r, 0, a, b, h, h2 => by
    have e1 : x = a := Option.some.inj h
    have e2 : y = b := Option.some.inj h2
    rw [← e1, ← e2]
    rfl
  | x :: y :: r, k + 1, a, b, h, h2 => by
    have h : r[2 * k]? = some a := h
    have h2 : r[2 * k + 1]? = some b := h2
    exact pairUp_get (es := r) (k := k) h h2
theorem pairUp_sum (rs ss : List Int) : ∀ {es : List Ex} {k : Nat}, es.length = 2 * k → ((pairUp es).map (wo rs ss)).sum = (es.map (wo rs ss)).sum ∧ (pairUp es).length = k
  | [], k, h => by
    rw [List.length_nil] at h
    exact ⟨rfl, by show 0 = k; omega⟩
  | [_], k, h => by
    rw [List.length_singleton] at h
    omega
  | x :: y :: r, k, h => by
    rw [List.length_cons, List.length_cons] at h
    obtain ⟨h1, h2⟩ := pairUp_sum rs ss (es := r) (k := k - 1) (by omega)
    refine ⟨?_, ?_⟩
    · show (wo rs ss (.two .sum x y) :: (pairUp r).map (wo rs ss)).sum = (wo rs ss x :: wo rs ss y :: r.map (wo rs ss)).sum
      rw [List.sum_cons, List.sum_cons, List.sum_cons, h1]
      show wo rs ss x + wo rs ss y + _ = _
      omega
    · show (pairUp r).length + 1 = k
      omega
theorem pairUp_ok {many d : Nat} : ∀ {es : List Ex}, (∀ e ∈ es, ExOk many e ∧ e.dep ≤ d) → ∀ e ∈ pairUp es, ExOk many e ∧ e.dep ≤ d + 1
  | [], _, e, h => by cases h
  | [_], _, e, h => by cases h
  | x :: y :: r, h, e, he => by
    have hx := h x List.mem_cons_self
    have hy := h y (List.mem_cons_of_mem _ List.mem_cons_self)
    rcases List.mem_cons.mp he with rfl | he
    · refine ⟨⟨hx.1, hy.1⟩, ?_⟩
      show max x.dep y.dep + 1 ≤ d + 1
      omega
    · exact pairUp_ok (es := r) (fun e he => h e (List.mem_cons_of_mem _ (List.mem_cons_of_mem _ he))) e he
def whn (j : Nat) (z : Int) : Ex := .whr j z (.fig 0) (.fig 1)
theorem count_sum (rs ss : List Int) (j : Nat) (h0 : 0 < ss.sum) : ∀ fs : List Int, ((fs.map (whn j)).map (wo rs ss)).sum = ((fs.filter fun z => decide (z ≤ 1000 * ss.getD j 0 / ss.sum)).length : Int) * ss.sum
  | [] => by simp
  | z :: fs => by
    have ih := count_sum rs ss j h0 fs
    have hm : 1000 * ss.getD j 0 / ss.sum < z ↔ 1000 * ss.getD j 0 < z * ss.sum := Int.ediv_lt_iff_lt_mul h0
    show (wo rs ss (whn j z) :: (fs.map (whn j)).map (wo rs ss)).sum = _
    rw [List.sum_cons, ih]
    show (if 1000 * ss.getD j 0 < z * ss.sum then 0 * ss.sum else 1 * ss.sum) + _ = _
    by_cases c : z ≤ 1000 * ss.getD j 0 / ss.sum
    · rw [List.filter_cons_of_pos (by rw [decide_eq_true c]), if_neg (fun q => by have := hm.mpr q; omega), List.length_cons, Int.natCast_succ, Int.add_mul]
      omega
    · rw [List.filter_cons_of_neg (by rw [decide_eq_false c]; exact Bool.false_ne_true), if_pos (hm.mp (by omega))]
      omega
def spCount (K : PySem.W.Frag) : Sp := fun vs H Q _ => ∃ (a : Addr) (many n : Nat) (s : V) (ss : List Int), vs = [.ref a, .int (many : Int), s] ∧ 2 ≤ many ∧ many ≤ 3 ∧ HandAt H a n ∧ n ≤ 999990000 ∧ ShAt K H many ss s ∧
  ∀ H', But a H H' → HandAt H' a (n + 10) → Q (.bl true) H'
end NG

namespace NG
open PySem PySem.Spec PyProof.Rows L2

/-! ### more rules -/
theorem pgtK {X : Cx} (K : PySem.W.Frag) {es : List Expr} {k : Nat} {t : TGs} {n : Nat} {pos : Pos} (hc : X.calm = true) (h : PGs X es t)
    (hn : (assignEach es X.env).length = n := by rfl) (hst : (assignEach es X.env).findIdx? (·.1) = none := by rfl) (hK : X.K = K := by rfl) : PG X (.Tuple es k pos) (gTup K n t) := by
  subst hK
  exact pg_tup hc h hn hst
theorem inK {X : Cx} (K : PySem.W.Frag) (h : X.K = K := by rfl) : OpR X (compareOp .In) (rIn K false) := by
  subst h
  exact op_in_seq
theorem isiK {X : Cx} (K : PySem.W.Frag) (h : X.K = K := by rfl) : CallR X (.builtin "isinstance") (rIsi K) := by
  subst h
  exact call_isi
theorem walk_zipT {K : PySem.W.Frag} {a b : Addr} {xs ys : List V} {n : Nat} (hx : xs.length = n) (hy : ys.length = n) : Walk (RZ.ItzT K a b) n (fun H => SqT K H a xs ∧ SqT K H b ys) (YPair (fun i => xs[i]?) (fun i => ys[i]?)) := by
  refine ⟨fun i H hi q => ?_, fun H q => ⟨xs, ys, q.1, q.2, .inl (by omega)⟩, fun i H v H' hi q y => ?_⟩
  · exact ⟨xs, ys, xs[i]'(by omega), ys[i]'(by omega), q.1, q.2, List.getElem?_eq_getElem _, List.getElem?_eq_getElem _⟩
  · obtain ⟨T, x, z, h1, h2, h3, h4, h5⟩ := y
    exact ⟨T, x, z, h1, h2, h3, h4 xs q.1, h5 ys q.2⟩
def tChain3 (r r' r'' : R2) (ta tb tc td : TE) : TT := fun σ H Q => ta σ H fun x H1 => tb σ H1 fun y H2 => r x y H2 fun z H3 => ∃ k, z = .bl k ∧
  (if k = true then tc σ H3 fun u H4 => r' y u H4 fun z' H5 => ∃ k', z' = .bl k' ∧ (if k' = true then td σ H5 fun v H6 => r'' u v H6 fun z'' H7 => ∃ k'', z'' = .bl k'' ∧ Q k'' H7 else Q false H5) else Q false H3)
theorem pt_chain3 {X : Cx} {a b c d : Expr} {ta tb tc td : TE} {pos : Pos} {o1 o2 o3 : CmpOp} {r1 r2 r3 : R2} (h1 : OpR X (compareOp o1) r1) (h2 : OpR X (compareOp o2) r2) (h3 : OpR X (compareOp o3) r3) (ha : PE X a ta) (hb : PE X b tb) (hc : PE X c tc) (hd : PE X d td)
    (hm : lastMarks [o1, o2, o3] [b, c, d] = false := by with_unfolding_all rfl) : PT X (.Compare a [o1, o2, o3] [b, c, d] pos) (tChain3 r1 r2 r3 ta tb tc td) := by
  refine ⟨fun pins s σ H Q I h => isTrue_chain (thn (ha.run pins s σ H _ I h) fun v1 s1 ⟨x, H1, I1, e1, q1⟩ => test_link (thn (hb.run pins s1 σ H1 _ I1 q1) fun v2 s2 ⟨y, H2, I2, e2, q2⟩ => thn (h1 pins s2 σ H2 x y v1 v2 _ I2 e1 e2 q2) fun v3 s3 ⟨z, H3, I3, e3, k, ek, q3⟩ => ?_)) hm⟩
  subst ek
  cases e3
  refine wpAny_truthy_bool ?_
  cases k with
  | false => exact ite_ff ⟨H3, I3, q3⟩
  | true =>
    refine ite_tt (test_link (thn (hc.run pins s3 σ H3 _ I3 q3) fun v4 s4 ⟨u, H4, I4, e4, q4⟩ => thn (h2 pins s4 σ H4 y u v2 v4 _ I4 e2 e4 q4) fun v5 s5 ⟨z', H5, I5, e5, k', ek', q5⟩ => ?_))
    subst ek'
    cases e5
    refine wpAny_truthy_bool ?_
    cases k' with
    | false => exact ite_ff ⟨H5, I5, q5⟩
    | true =>
      refine ite_tt (test_last (thn (hd.run pins s5 σ H5 _ I5 q5) fun v6 s6 ⟨v, H6, I6, e6, q6⟩ => thn (h3 pins s6 σ H6 u v v4 v6 _ I6 e4 e6 q6) fun v7 s7 ⟨z'', H7, I7, e7, k'', ek'', q7⟩ => ?_))
      subst ek''
      cases e7
      exact wpAny_truthy_bool ⟨H7, I7, q7⟩

/-! ### the shapes of words -/
def shapeOf : Ex → List Str
  | .fig _ => ["figure"]
  | .reg _ => ["place"]
  | .share _ => ["sign"]
  | .two _ _ _ => ["part", "part"]
  | .times _ _ => ["factor", "part"]
  | .by _ _ => ["place", "part"]
  | .when _ _ _ _ => ["place", "figure", "part", "part"]
  | .whr _ _ _ _ => ["sign", "line", "part", "part"]
def wordOf : Ex → Str
  | .fig _ => "fig"
  | .reg _ => "reg"
  | .share _ => "share"
  | .two w _ _ => wn w
  | .times _ _ => "times"
  | .by _ _ => "by"
  | .when _ _ _ _ => "when"
  | .whr _ _ _ _ => "where"
def Shapes (K : PySem.W.Frag) (w : World) (d : Addr) : Prop := ∀ e : Ex, ∃ q, KDct K w d (wordOf e) (.ref q) ∧ ∀ H, SqT K H q ((shapeOf e).map V.str)
def Ex.kids : Ex → List Ex
  | .fig _ => []
  | .reg _ => []
  | .share _ => []
  | .two _ a b => [a, b]
  | .times _ a => [a]
  | .by _ a => [a]
  | .when _ _ a b => [a, b]
  | .whr _ _ a b => [a, b]
/-- the items whose kind is a part -/
def pk : List Str → List V → List V
  | k :: ks, v :: vs => if V.str k = V.str "part" then v :: pk ks vs else pk ks vs
  | _, _ => []
theorem pk_snoc : ∀ {ks : List Str} {vs : List V} {i : Nat} {k : Str} {v : V}, ks[i]? = some k → vs[i]? = some v → pk (ks.take (i + 1)) (vs.take (i + 1)) = pk (ks.take i) (vs.take i) ++ (if V.str k = V.str "part" then [v] else [])
  | [], _, i, _, _, h, _ => by simp at h
  | _ :: _, [], i, _, _, _, h => by simp at h
  | k0 :: ks, v0 :: vs, 0, k, v, h, h2 => by
    have e1 : k0 = k := Option.some.inj h
    have e2 : v0 = v := Option.some.inj h2
    subst e1 e2
    show (if V.str k0 = V.str "part" then v0 :: pk (ks.take 0) (vs.take 0) else pk (ks.take 0) (vs.take 0)) = _
    split <;> rfl
  | k0 :: ks, v0 :: vs, i + 1, k, v, h, h2 => by
    have ih := pk_snoc (ks := ks) (vs := vs) (i := i) h h2
    show (if V.str k0 = V.str "part" then v0 :: pk (ks.take (i + 1)) (vs.take (i + 1)) else pk (ks.take (i + 1)) (vs.take (i + 1))) = (if V.str k0 = V.str "part" then v0 :: pk (ks.take i) (vs.take i) else pk (ks.take i) (vs.take i)) ++ _
    rw [ih]
    split <;> rfl
/-- how an expression lies: its word, then what belongs there -/
theorem ExAt.lies {K : PySem.W.Frag} {H : Hp} : ∀ {e : Ex} {v : V}, ExAt K H e v → ∃ (p : Addr) (xs : List V), v = .ref p ∧ SqT K H p (.str (wordOf e) :: xs) ∧ xs.length = (shapeOf e).length ∧ xs.length ≤ 4 ∧ 0 < xs.length ∧ RowsAt K H (pk (shapeOf e) xs) e.kids
  | .fig _, _, ⟨p, e, q⟩ => ⟨p, _, e, q, rfl, by simp, by simp, trivial⟩
  | .reg _, _, ⟨p, e, q⟩ => ⟨p, _, e, q, rfl, by simp, by simp, trivial⟩
  | .share _, _, ⟨p, e, q⟩ => ⟨p, _, e, q, rfl, by simp, by simp, trivial⟩
  | .two _ _ _, _, ⟨p, x, y, e, q, a, b⟩ => ⟨p, _, e, q, rfl, by simp, by simp, a, b, trivial⟩
  | .times _ _, _, ⟨p, x, e, q, a⟩ => ⟨p, _, e, q, rfl, by simp, by simp, a, trivial⟩
  | .by _ _, _, ⟨p, x, e, q, a⟩ => ⟨p, _, e, q, rfl, by simp, by simp, a, trivial⟩
  | .when _ _ _ _, _, ⟨p, x, y, e, q, a, b⟩ => ⟨p, _, e, q, rfl, by simp, by simp, a, b, trivial⟩
  | .whr _ _ _ _, _, ⟨p, x, y, e, q, a, b⟩ => ⟨p, _, e, q, rfl, by simp, by simp, a, b, trivial⟩
theorem pk_len : ∀ (ks : List Str) (vs : List V), (pk ks vs).length ≤ vs.length
  | [], vs => by
    unfold pk
    exact Nat.zero_le _
  | _ :: _, [] => Nat.le_refl _
  | k :: ks, v :: vs => by
    have := pk_len ks vs
    unfold pk
    split
    · rw [List.length_cons, List.length_cons]
      omega
    · rw [List.length_cons]
      omega

/-! ### spans -/
def mn (x y : Int) : Int := if y < x then y else x
def mx (x y : Int) : Int := if y > x then y else x
theorem mn_le (x y : Int) : mn x y ≤ x ∧ mn x y ≤ y := by unfold mn; split <;> omega
theorem le_mx (x y : Int) : x ≤ mx x y ∧ y ≤ mx x y := by unfold mx; split <;> omega
theorem mn_or (x y : Int) : mn x y = x ∨ mn x y = y := by unfold mn; split <;> simp
theorem mx_or (x y : Int) : mx x y = x ∨ mx x y = y := by unfold mx; split <;> simp
def ab (x : Int) : Int := if x < 0 then -x else x
def js : W4 → Int × Int → Int × Int → Int × Int
  | .sum, x, y => (x.1 + y.1, x.2 + y.2)
  | .less, x, y => (x.1 - y.2, x.2 - y.1)
  | .least, x, y => (mn x.1 y.1, mn x.2 y.2)
  | .most, x, y => (mx x.1 y.1, mx x.2 y.2)
def spn : Ex → Int × Int
  | .fig c => (c, c)
  | .reg _ => (-1000, 1000)
  | .share _ => (0, 1000)
  | .two w a b => js w (spn a) (spn b)
  | .times f a => (mn (f * (spn a).1) (f * (spn a).2), mx (f * (spn a).1) (f * (spn a).2))
  | .by _ a => (-1000 * mx (ab (spn a).1) (ab (spn a).2), 1000 * mx (ab (spn a).1) (ab (spn a).2))
  | .when _ _ a b => (mn (spn a).1 (spn b).1, mx (spn a).2 (spn b).2)
  | .whr _ _ a b => (mn (spn a).1 (spn b).1, mx (spn a).2 (spn b).2)
def SpAt (K : PySem.W.Frag) (H : Hp) (s : Int × Int) (v : V) : Prop := ∃ p, v = .ref p ∧ SqT K H p [.int s.1, .int s.2]
def SpsAt (K : PySem.W.Frag) (H : Hp) : List V → List (Int × Int) → Prop
  | [], [] => True
  | v :: vs, s :: ss => SpAt K H s v ∧ SpsAt K H vs ss
  | _, _ => False
theorem SpsAt.imp {K : PySem.W.Frag} {H H' : Hp} (h : ∀ p xs, SqT K H p xs → SqT K H' p xs) : ∀ {vs : List V} {ss : List (Int × Int)}, SpsAt K H vs ss → SpsAt K H' vs ss
  | [], [], _ => trivial
  | _ :: _, _ :: _, ⟨⟨p, e, q⟩, r⟩ => ⟨⟨p, e, h _ _ q⟩, SpsAt.imp h r⟩
theorem SpsAt.snoc {K : PySem.W.Frag} {H : Hp} {v : V} {s : Int × Int} (x : SpAt K H s v) : ∀ {vs : List V} {ss : List (Int × Int)}, SpsAt K H vs ss → SpsAt K H (vs ++ [v]) (ss ++ [s])
  | [], [], _ => ⟨x, trivial⟩
  | _ :: _, _ :: _, ⟨y, r⟩ => ⟨y, SpsAt.snoc x r⟩
theorem SpsAt.len {K : PySem.W.Frag} {H : Hp} : ∀ {vs : List V} {ss : List (Int × Int)}, SpsAt K H vs ss → vs.length = ss.length
  | [], [], _ => rfl
  | _ :: _, _ :: _, ⟨_, r⟩ => by rw [List.length_cons, List.length_cons, r.len]

theorem int_at {ns : List Int} {i : Nat} {v : V} (h : (ns.map V.int)[i]? = some v) : ∃ z : Int, v = .int z ∧ ns[i]? = some z := by
  rw [List.getElem?_map] at h
  cases e : ns[i]? with
  | none => rw [e] at h; cases h
  | some z => rw [e] at h; exact ⟨z, (Option.some.inj h).symm, rfl⟩
theorem SpsAt.one {K : PySem.W.Frag} {H : Hp} {us : List V} {s : Int × Int} (h : SpsAt K H us [s]) : ∃ p, us = [.ref p] ∧ SqT K H p [.int s.1, .int s.2] := by
  cases us with
  | nil => exact h.elim
  | cons u r =>
    cases r with
    | nil =>
      obtain ⟨⟨p, e, q⟩, _⟩ := h
      exact ⟨p, by rw [e], q⟩
    | cons _ _ => exact h.2.elim
theorem SpsAt.pair {K : PySem.W.Frag} {H : Hp} {us : List V} {s t : Int × Int} (h : SpsAt K H us [s, t]) : ∃ p q, us = [.ref p, .ref q] ∧ SqT K H p [.int s.1, .int s.2] ∧ SqT K H q [.int t.1, .int t.2] := by
  cases us with
  | nil => exact h.elim
  | cons u r =>
    obtain ⟨⟨p, e, q⟩, h2⟩ := h
    obtain ⟨p2, e2, q2⟩ := SpsAt.one h2
    exact ⟨p, p2, by rw [e, e2], q, q2⟩
theorem put_sqt {K : PySem.W.Frag} {H : Hp} {D p : Addr} {us us' xs : List V} (h : H D = some (.lst us)) (q : SqT K H p xs) : SqT K (upd H D (.lst us')) p xs := by
  rcases q with (q | ⟨o, q⟩) | q
  · exact .inl (.inl (by rw [upd_ne (ne_of q h (by intro z; cases z))]; exact q))
  · exact .inl (.inr ⟨o, by rw [upd_ne (ne_of q h (by intro z; cases z))]; exact q⟩)
  · exact .inr q
theorem RowsAt.get' {K : PySem.W.Frag} {H : Hp} : ∀ {vs : List V} {es : List Ex} {k : Nat} {v : V}, RowsAt K H vs es → vs[k]? = some v → ∃ e, es[k]? = some e ∧ ExAt K H e v
  | [], [], _, _, _, h => by simp at h
  | v' :: vs, e :: es, 0, v, ⟨x, r⟩, h => by
    have : v' = v := Option.some.inj h
    subst this
    exact ⟨e, rfl, x⟩
  | v' :: vs, e :: es, k + 1, v, ⟨x, r⟩, h => RowsAt.get' (k := k) r h
theorem mn_of {m a b : Int} (h : m ∈ [a, b]) (hl : ∀ y ∈ [a, b], m ≤ y) : m = mn a b := by
  have h1 := hl a (by simp)
  have h2 := hl b (by simp)
  simp only [List.mem_cons, List.not_mem_nil, or_false] at h
  unfold mn
  split <;> omega
theorem mx_of {m a b : Int} (h : m ∈ [a, b]) (hl : ∀ y ∈ [a, b], y ≤ m) : m = mx a b := by
  have h1 := hl a (by simp)
  have h2 := hl b (by simp)
  simp only [List.mem_cons, List.not_mem_nil, or_false] at h
  unfold mx
  split <;> omega

/-! ### promises -/
def spParts (K : PySem.W.Frag) : Sp := fun vs H Q _ => ∃ (v : V) (e : Ex), vs = [v] ∧ ExAt K H e v ∧ ∀ H' p xs, Same H H' → H p = none → H' p = some (.lst xs) → RowsAt K H' xs e.kids → Q (.ref p) H'
def spJoinS (K : PySem.W.Frag) : Sp := fun vs H Q _ => ∃ (e : Ex) (x y : V) (s t : Int × Int), vs = [.str (wordOf e), x, y] ∧ SpAt K H s x ∧ SpAt K H t y ∧
  ((∃ w a b, e = .two w a b ∧ ∀ H' v, Same H H' → SpAt K H' (js w s t) v → Q v H') ∨ ((∃ i c a b, e = .when i c a b) ∨ (∃ i c a b, e = .whr i c a b)) ∧ ∀ H' v, Same H H' → SpAt K H' (mn s.1 t.1, mx s.2 t.2) v → Q v H')
def spSpan (K : PySem.W.Frag) (n : Nat) : Sp := fun vs H Q _ => ∃ (v : V) (e : Ex) (many : Nat), vs = [v] ∧ ExAt K H e v ∧ ExOk many e ∧ e.dep ≤ n ∧ ∀ H' u, Same H H' → SpAt K H' (spn e) u → Q u H'
theorem kids_dep : ∀ (e : Ex) (k : Ex), k ∈ e.kids → k.dep + 1 ≤ e.dep
  | .fig _, k, h => by cases h
  | .reg _, k, h => by cases h
  | .share _, k, h => by cases h
  | .two w0 a b, k, h => by
    simp only [Ex.kids, List.mem_cons, List.not_mem_nil, or_false] at h
    have e : Ex.dep (.two w0 a b) = max a.dep b.dep + 1 := rfl
    rw [e]
    rcases h with rfl | rfl <;> omega
  | .times _ a, k, h => by
    simp only [Ex.kids, List.mem_cons, List.not_mem_nil, or_false] at h
    subst h
    exact Nat.le_refl _
  | .by _ a, k, h => by
    simp only [Ex.kids, List.mem_cons, List.not_mem_nil, or_false] at h
    subst h
    exact Nat.le_refl _
  | .when i0 c0 a b, k, h => by
    simp only [Ex.kids, List.mem_cons, List.not_mem_nil, or_false] at h
    have e : Ex.dep (.when i0 c0 a b) = max a.dep b.dep + 1 := rfl
    rw [e]
    rcases h with rfl | rfl <;> omega
  | .whr i0 c0 a b, k, h => by
    simp only [Ex.kids, List.mem_cons, List.not_mem_nil, or_false] at h
    have e : Ex.dep (.whr i0 c0 a b) = max a.dep b.dep + 1 := rfl
    rw [e]
    rcases h with rfl | rfl <;> omega
theorem kids_ok {many : Nat} : ∀ (e : Ex) (k : Ex), ExOk many e → k ∈ e.kids → ExOk many k
  | .fig _, k, _, h => by cases h
  | .reg _, k, _, h => by cases h
  | .share _, k, _, h => by cases h
  | .two _ a b, k, o, h => by
    simp only [Ex.kids, List.mem_cons, List.not_mem_nil, or_false] at h
    rcases h with rfl | rfl
    · exact o.1
    · exact o.2
  | .times _ a, k, o, h => by
    simp only [Ex.kids, List.mem_cons, List.not_mem_nil, or_false] at h
    subst h
    exact o.2
  | .by _ a, k, o, h => by
    simp only [Ex.kids, List.mem_cons, List.not_mem_nil, or_false] at h
    subst h
    exact o.2
  | .when _ _ a b, k, o, h => by
    simp only [Ex.kids, List.mem_cons, List.not_mem_nil, or_false] at h
    rcases h with rfl | rfl
    · exact o.2.2.1
    · exact o.2.2.2
  | .whr _ _ a b, k, o, h => by
    simp only [Ex.kids, List.mem_cons, List.not_mem_nil, or_false] at h
    rcases h with rfl | rfl
    · exact o.2.2.1
    · exact o.2.2.2
end NG

namespace NG
open PySem PySem.Spec PyProof.Rows L2
/-! ### what stands around an expression -/
inductive Cx1 where
  | l (w : W4) (x : Ex) | r (w : W4) (x : Ex) | times (f : Int) | by (i : Nat)
  | whenL (i : Nat) (c : Int) (x : Ex) | whenR (i : Nat) (c : Int) (x : Ex) | whrL (j : Nat) (c : Int) (x : Ex) | whrR (j : Nat) (c : Int) (x : Ex)
def Cx1.put : Cx1 → Ex → Ex
  | .l w x, e => .two w e x
  | .r w x, e => .two w x e
  | .times f, e => .times f e
  | .by i, e => .by i e
  | .whenL i c x, e => .when i c e x
  | .whenR i c x, e => .when i c x e
  | .whrL j c x, e => .whr j c e x
  | .whrR j c x, e => .whr j c x e
def Cx1.lay (u : V) : Cx1 → List V × List V
  | .l w _ => ([.str (wn w)], [u])
  | .r w _ => ([.str (wn w), u], [])
  | .times f => ([.str "times", .int f], [])
  | .by i => ([.str "by", .int (i : Int)], [])
  | .whenL i c _ => ([.str "when", .int (i : Int), .int c], [u])
  | .whenR i c _ => ([.str "when", .int (i : Int), .int c, u], [])
  | .whrL j c _ => ([.str "where", .int (j : Int), .int c], [u])
  | .whrR j c _ => ([.str "where", .int (j : Int), .int c, u], [])
def Cx1.leaf (K : PySem.W.Frag) (H : Hp) (u : V) : Cx1 → Prop
  | .l _ x => ExAt K H x u
  | .r _ x => ExAt K H x u
  | .times _ => True
  | .by _ => True
  | .whenL _ _ x => ExAt K H x u
  | .whenR _ _ x => ExAt K H x u
  | .whrL _ _ x => ExAt K H x u
  | .whrR _ _ x => ExAt K H x u
def Cx1.ok (many : Nat) : Cx1 → Prop
  | .l _ x => ExOk many x ∧ x.dep ≤ 1
  | .r _ x => ExOk many x ∧ x.dep ≤ 1
  | .times f => -9 ≤ f ∧ f ≤ 9
  | .by i => i < 4
  | .whenL i c x => i < 4 ∧ (-1000 ≤ c ∧ c ≤ 1000) ∧ ExOk many x ∧ x.dep ≤ 1
  | .whenR i c x => i < 4 ∧ (-1000 ≤ c ∧ c ≤ 1000) ∧ ExOk many x ∧ x.dep ≤ 1
  | .whrL j c x => j < many ∧ (1 ≤ c ∧ c ≤ 1000) ∧ ExOk many x ∧ x.dep ≤ 1
  | .whrR j c x => j < many ∧ (1 ≤ c ∧ c ≤ 1000) ∧ ExOk many x ∧ x.dep ≤ 1
def CtxAt (K : PySem.W.Frag) (H : Hp) (c : Cx1) (v : V) : Prop := ∃ (p pa pr : Addr) (u : V), v = .ref p ∧ SqT K H p [.ref pa, .ref pr] ∧ SqT K H pa (c.lay u).1 ∧ SqT K H pr (c.lay u).2 ∧ c.leaf K H u
theorem CtxAt.imp {K : PySem.W.Frag} {H H' : Hp} {c : Cx1} {v : V} (x : CtxAt K H c v) (h : ∀ p xs, SqT K H p xs → SqT K H' p xs) : CtxAt K H' c v := by
  obtain ⟨p, pa, pr, u, e, q1, q2, q3, lf⟩ := x
  refine ⟨p, pa, pr, u, e, h _ _ q1, h _ _ q2, h _ _ q3, ?_⟩
  cases c with
  | l w x => exact ExAt.imp h lf
  | r w x => exact ExAt.imp h lf
  | times f => trivial
  | «by» i => trivial
  | whenL i c x => exact ExAt.imp h lf
  | whenR i c x => exact ExAt.imp h lf
  | whrL i c x => exact ExAt.imp h lf
  | whrR i c x => exact ExAt.imp h lf
def CtxsAt (K : PySem.W.Frag) (H : Hp) : List V → List Cx1 → Prop
  | [], [] => True
  | v :: vs, c :: cs => CtxAt K H c v ∧ CtxsAt K H vs cs
  | _, _ => False
theorem CtxsAt.imp {K : PySem.W.Frag} {H H' : Hp} (h : ∀ p xs, SqT K H p xs → SqT K H' p xs) : ∀ {vs : List V} {cs : List Cx1}, CtxsAt K H vs cs → CtxsAt K H' vs cs
  | [], [], _ => trivial
  | _ :: _, _ :: _, ⟨x, r⟩ => ⟨x.imp h, CtxsAt.imp h r⟩
theorem CtxsAt.len {K : PySem.W.Frag} {H : Hp} : ∀ {vs : List V} {cs : List Cx1}, CtxsAt K H vs cs → vs.length = cs.length
  | [], [], _ => rfl
  | _ :: _, _ :: _, ⟨_, r⟩ => by rw [List.length_cons, List.length_cons, r.len]
theorem CtxsAt.snoc {K : PySem.W.Frag} {H : Hp} {v : V} {c : Cx1} (x : CtxAt K H c v) : ∀ {vs : List V} {cs : List Cx1}, CtxsAt K H vs cs → CtxsAt K H (vs ++ [v]) (cs ++ [c])
  | [], [], _ => ⟨x, trivial⟩
  | _ :: _, _ :: _, ⟨y, r⟩ => ⟨y, CtxsAt.snoc x r⟩
theorem CtxsAt.get' {K : PySem.W.Frag} {H : Hp} : ∀ {vs : List V} {cs : List Cx1} {k : Nat} {v : V}, CtxsAt K H vs cs → vs[k]? = some v → ∃ c, cs[k]? = some c ∧ CtxAt K H c v
  | [], [], _, _, _, h => by simp at h
  | v' :: vs, e :: es, 0, v, ⟨x, r⟩, h => by
    have : v' = v := Option.some.inj h
    subst this
    exact ⟨e, rfl, x⟩
  | v' :: vs, e :: es, k + 1, v, ⟨x, r⟩, h => CtxsAt.get' (k := k) r h
theorem put_at {K : PySem.W.Frag} {H : Hp} {c : Cx1} {u v : V} {e : Ex} {p : Addr} (hp : SqT K H p ((c.lay u).1 ++ [v] ++ (c.lay u).2)) (lf : c.leaf K H u) (he : ExAt K H e v) : ExAt K H (c.put e) (.ref p) := by
  cases c with
  | l w x => exact ⟨p, v, u, rfl, hp, he, lf⟩
  | r w x => exact ⟨p, u, v, rfl, hp, lf, he⟩
  | times f => exact ⟨p, v, rfl, hp, he⟩
  | «by» i => exact ⟨p, v, rfl, hp, he⟩
  | whenL i c x => exact ⟨p, v, u, rfl, hp, he, lf⟩
  | whenR i c x => exact ⟨p, u, v, rfl, hp, lf, he⟩
  | whrL i c x => exact ⟨p, v, u, rfl, hp, he, lf⟩
  | whrR i c x => exact ⟨p, u, v, rfl, hp, lf, he⟩
theorem put_ok {many : Nat} {c : Cx1} {e : Ex} (o : c.ok many) (oe : ExOk many e) : ExOk many (c.put e) := by
  cases c with
  | l w x => exact ⟨oe, o.1⟩
  | r w x => exact ⟨o.1, oe⟩
  | times f => exact ⟨o, oe⟩
  | «by» i => exact ⟨o, oe⟩
  | whenL i c x => exact ⟨o.1, o.2.1, oe, o.2.2.1⟩
  | whenR i c x => exact ⟨o.1, o.2.1, o.2.2.1, oe⟩
  | whrL i c x => exact ⟨o.1, o.2.1, oe, o.2.2.1⟩
  | whrR i c x => exact ⟨o.1, o.2.1, o.2.2.1, oe⟩
theorem dep_pos (e : Ex) : 1 ≤ e.dep := by cases e <;> (unfold Ex.dep; omega)
theorem put_dep {many : Nat} {c : Cx1} {e : Ex} (o : c.ok many) : (c.put e).dep ≤ e.dep + 1 := by
  have he := dep_pos e
  cases c with
  | l w x => show max e.dep x.dep + 1 ≤ _; have := o.2; omega
  | r w x => show max x.dep e.dep + 1 ≤ _; have := o.2; omega
  | times f => exact Nat.le_refl _
  | «by» i => exact Nat.le_refl _
  | whenL i c x => show max e.dep x.dep + 1 ≤ _; have := o.2.2.2; omega
  | whenR i c x => show max x.dep e.dep + 1 ≤ _; have := o.2.2.2; omega
  | whrL i c x => show max e.dep x.dep + 1 ≤ _; have := o.2.2.2; omega
  | whrR i c x => show max x.dep e.dep + 1 ≤ _; have := o.2.2.2; omega
def putAll (cs : List Cx1) (e : Ex) : Ex := cs.foldl (fun e c => c.put e) e
theorem putAll_ok {many : Nat} : ∀ {cs : List Cx1} {e : Ex}, (∀ c ∈ cs, c.ok many) → ExOk many e → ExOk many (putAll cs e)
  | [], _, _, h => h
  | c :: cs, e, o, h => putAll_ok (cs := cs) (e := c.put e) (fun c' h' => o c' (List.mem_cons_of_mem _ h')) (put_ok (o c List.mem_cons_self) h)
theorem putAll_dep {many : Nat} : ∀ {cs : List Cx1} {e : Ex}, (∀ c ∈ cs, c.ok many) → (putAll cs e).dep ≤ e.dep + cs.length
  | [], _, _ => Nat.le_refl _
  | c :: cs, e, o => by
    have h1 := putAll_dep (cs := cs) (e := c.put e) (fun c' h' => o c' (List.mem_cons_of_mem _ h'))
    have h2 := put_dep (e := e) (o c List.mem_cons_self)
    show (putAll cs (c.put e)).dep ≤ _
    rw [List.length_cons]
    omega
def fac1 (rs : List Int) (F : Int) : Cx1 → Int
  | .times f => F * f
  | .by i => F * rs.getD i 0
  | .r .less _ => 0 - F
  | _ => F
def fac (rs : List Int) (cs : List Cx1) : Int := cs.foldl (fac1 rs) 1

/-! ### a greater part put in -/
def Btw (d m : Int) : Prop := (0 ≤ d ∧ d ≤ m) ∨ (m ≤ d ∧ d ≤ 0)
theorem btw_mul {f d m : Int} (h : Btw d m) : Btw (f * d) (f * m) := by
  rcases Int.le_total 0 f with hf | hf
  · rcases h with ⟨h1, h2⟩ | ⟨h1, h2⟩
    · exact .inl ⟨Int.mul_nonneg hf h1, Int.mul_le_mul_of_nonneg_left h2 hf⟩
    · exact .inr ⟨Int.mul_le_mul_of_nonneg_left h1 hf, Int.mul_nonpos_of_nonneg_of_nonpos hf h2⟩
  · rcases h with ⟨h1, h2⟩ | ⟨h1, h2⟩
    · exact .inr ⟨Int.mul_le_mul_of_nonpos_left hf h2, Int.mul_nonpos_of_nonpos_of_nonneg hf h1⟩
    · exact .inl ⟨Int.mul_nonneg_of_nonpos_of_nonpos hf h2, Int.mul_le_mul_of_nonpos_left hf h1⟩
theorem btw_zero {m : Int} : Btw 0 m := by
  unfold Btw
  omega
theorem btw_jw {d m x y z : Int} (w : W4) (h : Btw d m) (e : d = y - x) (hw : w ≠ .less) : Btw (jw w y z - jw w x z) m := by
  unfold Btw at *
  cases w with
  | sum => simp only [jw]; omega
  | less => exact absurd rfl hw
  | least => simp only [jw]; split <;> split <;> omega
  | most => simp only [jw]; split <;> split <;> omega
theorem btw_jw' {d m x y z : Int} (w : W4) (h : Btw d m) (e : d = y - x) (hw : w ≠ .less) : Btw (jw w z y - jw w z x) m := by
  unfold Btw at *
  cases w with
  | sum => simp only [jw]; omega
  | less => exact absurd rfl hw
  | least => simp only [jw]; split <;> split <;> omega
  | most => simp only [jw]; split <;> split <;> omega
theorem btw_step {rs ss : List Int} {c : Cx1} {e1 e2 : Ex} {F P : Int} (h : Btw (wo rs ss e2 - wo rs ss e1) (F * P)) : Btw (wo rs ss (c.put e2) - wo rs ss (c.put e1)) (fac1 rs F c * P) := by
  cases c with
  | l w x =>
    cases w with
    | less =>
      show Btw ((wo rs ss e2 - wo rs ss x) - (wo rs ss e1 - wo rs ss x)) (F * P)
      rw [show (wo rs ss e2 - wo rs ss x) - (wo rs ss e1 - wo rs ss x) = wo rs ss e2 - wo rs ss e1 by omega]
      exact h
    | sum => exact btw_jw .sum h rfl (by simp)
    | least => exact btw_jw .least h rfl (by simp)
    | most => exact btw_jw .most h rfl (by simp)
  | r w x =>
    cases w with
    | less =>
      show Btw ((wo rs ss x - wo rs ss e2) - (wo rs ss x - wo rs ss e1)) ((0 - F) * P)
      rw [Int.sub_mul, Int.zero_mul]
      unfold Btw at *
      omega
    | sum => exact btw_jw' .sum h rfl (by simp)
    | least => exact btw_jw' .least h rfl (by simp)
    | most => exact btw_jw' .most h rfl (by simp)
  | times f =>
    show Btw (f * wo rs ss e2 - f * wo rs ss e1) (F * f * P)
    rw [← Int.mul_sub, Int.mul_comm F f, Int.mul_assoc]
    exact btw_mul h
  | «by» i =>
    show Btw (rs.getD i 0 * wo rs ss e2 - rs.getD i 0 * wo rs ss e1) (F * rs.getD i 0 * P)
    rw [← Int.mul_sub, Int.mul_comm F, Int.mul_assoc]
    exact btw_mul h
  | whenL i c x =>
    show Btw ((if rs.getD i 0 < c then wo rs ss e2 else wo rs ss x) - (if rs.getD i 0 < c then wo rs ss e1 else wo rs ss x)) (F * P)
    split
    · exact h
    · rw [Int.sub_self]
      exact btw_zero
  | whenR i c x =>
    show Btw ((if rs.getD i 0 < c then wo rs ss x else wo rs ss e2) - (if rs.getD i 0 < c then wo rs ss x else wo rs ss e1)) (F * P)
    split
    · rw [Int.sub_self]
      exact btw_zero
    · exact h
  | whrL j c x =>
    show Btw ((if 1000 * ss.getD j 0 < c * ss.sum then wo rs ss e2 else wo rs ss x) - (if 1000 * ss.getD j 0 < c * ss.sum then wo rs ss e1 else wo rs ss x)) (F * P)
    split
    · exact h
    · rw [Int.sub_self]
      exact btw_zero
  | whrR j c x =>
    show Btw ((if 1000 * ss.getD j 0 < c * ss.sum then wo rs ss x else wo rs ss e2) - (if 1000 * ss.getD j 0 < c * ss.sum then wo rs ss x else wo rs ss e1)) (F * P)
    split
    · rw [Int.sub_self]
      exact btw_zero
    · exact h
theorem btw_all {rs ss : List Int} {P : Int} : ∀ {cs : List Cx1} {e1 e2 : Ex} {F : Int}, Btw (wo rs ss e2 - wo rs ss e1) (F * P) → Btw (wo rs ss (putAll cs e2) - wo rs ss (putAll cs e1)) (cs.foldl (fac1 rs) F * P)
  | [], _, _, _, h => h
  | c :: cs, e1, e2, F, h => btw_all (cs := cs) (e1 := c.put e1) (e2 := c.put e2) (F := fac1 rs F c) (btw_step h)
theorem moved {rs ss : List Int} {cs : List Cx1} {e : Ex} {p : Int} (h : 0 ≤ p * ss.sum) : Btw (wo rs ss (putAll cs (.two .sum e (.fig p))) - wo rs ss (putAll cs e)) (fac rs cs * p * ss.sum) := by
  rw [Int.mul_assoc]
  refine btw_all (F := 1) ?_
  show Btw (wo rs ss e + p * ss.sum - wo rs ss e) (1 * (p * ss.sum))
  rw [Int.one_mul]
  unfold Btw
  omega

/-! ### worths lie in their spans -/
theorem le_sum : ∀ {ss : List Int} {j : Nat}, (∀ x ∈ ss, 0 ≤ x) → j < ss.length → ss.getD j 0 ≤ ss.sum
  | [], _, _, h => by simp at h
  | x :: ss, 0, h, _ => by
    have := sum_nonneg (ms := ss) fun y hy => h y (List.mem_cons_of_mem _ hy)
    show x ≤ (x :: ss).sum
    rw [List.sum_cons]
    omega
  | x :: ss, j + 1, h, hj => by
    have h1 := le_sum (ss := ss) (j := j) (fun y hy => h y (List.mem_cons_of_mem _ hy)) (by simpa using hj)
    have h2 := h x List.mem_cons_self
    show ss.getD j 0 ≤ (x :: ss).sum
    rw [List.sum_cons]
    omega
theorem spn_le : ∀ e : Ex, (spn e).1 ≤ (spn e).2
  | .fig _ => Int.le_refl _
  | .reg _ => by
    show (-1000 : Int) ≤ 1000
    decide
  | .share _ => by
    show (0 : Int) ≤ 1000
    decide
  | .two w a b => by
    have ha := spn_le a
    have hb := spn_le b
    show (js w (spn a) (spn b)).1 ≤ (js w (spn a) (spn b)).2
    cases w with
    | sum => show _ + _ ≤ _ + _; omega
    | less => show _ - _ ≤ _ - _; omega
    | least => show mn _ _ ≤ mn _ _; unfold mn; split <;> split <;> omega
    | most => show mx _ _ ≤ mx _ _; unfold mx; split <;> split <;> omega
  | .times f a => by
    show mn _ _ ≤ mx _ _
    unfold mn mx
    split <;> split <;> omega
  | .by _ a => by
    have h1 : 0 ≤ ab (spn a).1 := by unfold ab; split <;> omega
    have h2 := le_mx (ab (spn a).1) (ab (spn a).2)
    show -1000 * _ ≤ 1000 * _
    omega
  | .when _ _ a b => by
    have ha := spn_le a
    have h1 := mn_le (spn a).1 (spn b).1
    have h2 := le_mx (spn a).2 (spn b).2
    show mn _ _ ≤ mx _ _
    omega
  | .whr _ _ a b => by
    have ha := spn_le a
    have h1 := mn_le (spn a).1 (spn b).1
    have h2 := le_mx (spn a).2 (spn b).2
    show mn _ _ ≤ mx _ _
    omega
theorem mulr_le {a b n : Int} (h : a ≤ b) (hn : 0 ≤ n) : a * n ≤ b * n := Int.mul_le_mul_of_nonneg_right h hn
theorem in_span {many : Nat} {rs ss : List Int} (hr : rs.length = 4) (hrb : ∀ x ∈ rs, -1000 ≤ x ∧ x ≤ 1000) (hs : ss.length = many) (hsb : ∀ x ∈ ss, 0 ≤ x) : ∀ e : Ex, ExOk many e → (spn e).1 * ss.sum ≤ wo rs ss e ∧ wo rs ss e ≤ (spn e).2 * ss.sum
  | .fig c, _ => ⟨Int.le_refl _, Int.le_refl _⟩
  | .reg i, o => by
    have hn := sum_nonneg hsb
    have h := hrb _ (getD_mem (ns := rs) (i := i) (by rw [hr]; exact o))
    exact ⟨mulr_le h.1 hn, mulr_le h.2 hn⟩
  | .share j, o => by
    have o : j < many := o
    have h1 := le_sum (j := j) hsb (by omega)
    have h2 := hsb _ (getD_mem (ns := ss) (i := j) (by omega))
    show 0 * ss.sum ≤ 1000 * ss.getD j 0 ∧ 1000 * ss.getD j 0 ≤ 1000 * ss.sum
    omega
  | .two w a b, o => by
    have ha := in_span hr hrb hs hsb a o.1
    have hb := in_span hr hrb hs hsb b o.2
    have hn := sum_nonneg hsb
    show (js w (spn a) (spn b)).1 * ss.sum ≤ jw w (wo rs ss a) (wo rs ss b) ∧ jw w (wo rs ss a) (wo rs ss b) ≤ (js w (spn a) (spn b)).2 * ss.sum
    cases w with
    | sum =>
      show ((spn a).1 + (spn b).1) * ss.sum ≤ wo rs ss a + wo rs ss b ∧ wo rs ss a + wo rs ss b ≤ ((spn a).2 + (spn b).2) * ss.sum
      rw [Int.add_mul, Int.add_mul]
      omega
    | less =>
      show ((spn a).1 - (spn b).2) * ss.sum ≤ wo rs ss a - wo rs ss b ∧ wo rs ss a - wo rs ss b ≤ ((spn a).2 - (spn b).1) * ss.sum
      rw [Int.sub_mul, Int.sub_mul]
      omega
    | least =>
      have h1 := mn_le (spn a).1 (spn b).1
      have h3 := mulr_le h1.1 hn
      have h4 := mulr_le h1.2 hn
      have h5 := mn_or (spn a).2 (spn b).2
      show mn (spn a).1 (spn b).1 * ss.sum ≤ (if wo rs ss b < wo rs ss a then wo rs ss b else wo rs ss a) ∧ (if wo rs ss b < wo rs ss a then wo rs ss b else wo rs ss a) ≤ mn (spn a).2 (spn b).2 * ss.sum
      rcases h5 with h5 | h5 <;> rw [h5] <;> split <;> omega
    | most =>
      have h1 := le_mx (spn a).2 (spn b).2
      have h3 := mulr_le h1.1 hn
      have h4 := mulr_le h1.2 hn
      have h5 := mx_or (spn a).1 (spn b).1
      show mx (spn a).1 (spn b).1 * ss.sum ≤ (if wo rs ss b > wo rs ss a then wo rs ss b else wo rs ss a) ∧ (if wo rs ss b > wo rs ss a then wo rs ss b else wo rs ss a) ≤ mx (spn a).2 (spn b).2 * ss.sum
      rcases h5 with h5 | h5 <;> rw [h5] <;> split <;> omega
  | .times f a, o => by
    have ha := in_span hr hrb hs hsb a o.2
    have hn := sum_nonneg hsb
    have m1 := mn_le (f * (spn a).1) (f * (spn a).2)
    have m2 := le_mx (f * (spn a).1) (f * (spn a).2)
    have n1 := mulr_le m1.1 hn
    have n2 := mulr_le m1.2 hn
    have n3 := mulr_le m2.1 hn
    have n4 := mulr_le m2.2 hn
    rw [Int.mul_assoc] at n1 n2 n3 n4
    show mn _ _ * ss.sum ≤ f * wo rs ss a ∧ f * wo rs ss a ≤ mx _ _ * ss.sum
    rcases Int.le_total 0 f with hf | hf
    · have p1 := Int.mul_le_mul_of_nonneg_left ha.1 hf
      have p2 := Int.mul_le_mul_of_nonneg_left ha.2 hf
      omega
    · have p1 := Int.mul_le_mul_of_nonpos_left hf ha.1
      have p2 := Int.mul_le_mul_of_nonpos_left hf ha.2
      omega
  | .by i a, o => by
    have ha := in_span hr hrb hs hsb a o.2
    have hn := sum_nonneg hsb
    have hg := hrb _ (getD_mem (ns := rs) (i := i) (by rw [hr]; exact o.1))
    generalize ht : mx (ab (spn a).1) (ab (spn a).2) = t
    have t1 : -t ≤ (spn a).1 ∧ (spn a).2 ≤ t := by
      have h2 := le_mx (ab (spn a).1) (ab (spn a).2)
      rw [ht] at h2
      have h3 : -(spn a).1 ≤ ab (spn a).1 := by unfold ab; split <;> omega
      have h4 : (spn a).2 ≤ ab (spn a).2 := by unfold ab; split <;> omega
      omega
    have w1 : -(t * ss.sum) ≤ wo rs ss a := by
      have := mulr_le t1.1 hn
      rw [Int.neg_mul] at this
      omega
    have w2 : wo rs ss a ≤ t * ss.sum := by
      have := mulr_le t1.2 hn
      omega
    show (-1000 * mx (ab (spn a).1) (ab (spn a).2)) * ss.sum ≤ rs.getD i 0 * wo rs ss a ∧ rs.getD i 0 * wo rs ss a ≤ (1000 * mx (ab (spn a).1) (ab (spn a).2)) * ss.sum
    rw [ht, Int.mul_assoc, Int.mul_assoc]
    generalize rs.getD i 0 = g at *
    generalize t * ss.sum = T at *
    generalize wo rs ss a = x at *
    have hT : 0 ≤ T := by omega
    rcases Int.le_total 0 g with hgn | hgn
    · have p1 := Int.mul_le_mul_of_nonneg_left w1 hgn
      have p2 := Int.mul_le_mul_of_nonneg_left w2 hgn
      have p3 := Int.mul_le_mul_of_nonneg_right hg.2 hT
      rw [Int.mul_neg] at p1
      omega
    · have p1 := Int.mul_le_mul_of_nonpos_left hgn w1
      have p2 := Int.mul_le_mul_of_nonpos_left hgn w2
      have p3 := Int.mul_le_mul_of_nonneg_right hg.1 hT
      rw [Int.mul_neg] at p1
      omega
  | .when i c a b, o => by
    have ha := in_span hr hrb hs hsb a o.2.2.1
    have hb := in_span hr hrb hs hsb b o.2.2.2
    have hn := sum_nonneg hsb
    have m1 := mn_le (spn a).1 (spn b).1
    have m2 := le_mx (spn a).2 (spn b).2
    have n1 := mulr_le m1.1 hn
    have n2 := mulr_le m1.2 hn
    have n3 := mulr_le m2.1 hn
    have n4 := mulr_le m2.2 hn
    show mn _ _ * ss.sum ≤ (if rs.getD i 0 < c then wo rs ss a else wo rs ss b) ∧ (if rs.getD i 0 < c then wo rs ss a else wo rs ss b) ≤ mx _ _ * ss.sum
    split <;> omega
  | .whr j c a b, o => by
    have ha := in_span hr hrb hs hsb a o.2.2.1
    have hb := in_span hr hrb hs hsb b o.2.2.2
    have hn := sum_nonneg hsb
    have m1 := mn_le (spn a).1 (spn b).1
    have m2 := le_mx (spn a).2 (spn b).2
    have n1 := mulr_le m1.1 hn
    have n2 := mulr_le m1.2 hn
    have n3 := mulr_le m2.1 hn
    have n4 := mulr_le m2.2 hn
    show mn _ _ * ss.sum ≤ (if 1000 * ss.getD j 0 < c * ss.sum then wo rs ss a else wo rs ss b) ∧ (if 1000 * ss.getD j 0 < c * ss.sum then wo rs ss a else wo rs ss b) ≤ mx _ _ * ss.sum
    split <;> omega

/-! ### promises -/
def spAround (K : PySem.W.Frag) : Sp := fun vs H Q _ => ∃ (a : Addr) (many n : Nat), vs = [.ref a, .int (many : Int)] ∧ 2 ≤ many ∧ many ≤ 3 ∧ HandAt H a n ∧ n ≤ 999998000 ∧
  ∀ H' p xs cs, But a H H' → HandAt H' a (n + 90) → p ≠ a → H' p = some (.lst xs) → CtxsAt K H' xs cs → (∀ c ∈ cs, c.ok many) → cs.length ≤ 4 → Q (.ref p) H'
def spPut (K : PySem.W.Frag) : Sp := fun vs H Q _ => ∃ (p : Addr) (v : V) (xs : List V) (cs : List Cx1) (e : Ex), vs = [.ref p, v] ∧ H p = some (.lst xs) ∧ CtxsAt K H xs cs ∧ ExAt K H e v ∧ ∀ H' u, Same H H' → ExAt K H' (putAll cs e) u → Q u H'
def spFac (K : PySem.W.Frag) (many : Nat) : Sp := fun vs H Q _ => ∃ (p : Addr) (r : V) (xs : List V) (cs : List Cx1) (rs : List Int), vs = [.ref p, r] ∧ H p = some (.lst xs) ∧ CtxsAt K H xs cs ∧ (∀ c ∈ cs, c.ok many) ∧ RegsAt K H rs r ∧ Q (.int (fac rs cs)) H
end NG

namespace NG
open PySem PySem.Spec PyProof.Rows L2

/-! ### promises that are kept while no repr is under way -/
structure FnG (P : Program) (w : World) (K : PySem.W.Frag) (mg : Str → Option Value) (base : Heap) (k : Nat) (f : Addr) (fd : FuncData) (ps : List Str) (sp : Sp) : Prop where
  len : ∀ vs H Q E, sp vs H Q E → vs.length = ps.length
  run : ∀ (A : Around) (outer : List Env) (s : Shared) (H : Hp) (args : Args) (us : List Value) (vs : List V) (Q : VK), A.guards = some [] → Room k A → Env0 P w K mg base A outer s H → BindsTo s fd args (ps.zip us) → Vals vs us → sp vs H Q E0 →
    codeAny (model P w) A (.call (.ref f) args) (CR CX0 outer P w H s Q E0) s
theorem FnG.of {P : Program} {w : World} {K : PySem.W.Frag} {mg : Str → Option Value} {base : Heap} {k : Nat} {f : Addr} {fd : FuncData} {ps : List Str} {sp : Sp} (F : FnOk P w K mg base CX0 k f fd ps sp) : FnG P w K mg base k f fd ps sp :=
  ⟨F.len, fun A outer s H args us vs Q _ hr he hb hv hs => F.run A outer s H args us vs Q E0 hr he hb hv hs⟩
theorem fnG {P : Program} {w : World} {K : PySem.W.Frag} {mg : Str → Option Value} {base : Heap} {x qual : Str} {st : Stmt} {f : Addr} {fd : FuncData} {N ps : List Str} {k : Nat} {sp : Sp} (F : Fun K x qual st f fd) (S : FnScope N ps (defScope st)) (len : ∀ vs H Q E, sp vs H Q E → vs.length = ps.length)
    (walk : ∀ (cdv : Value) (A : Around) (outer : List Env) (s : Shared) (H : Hp) (vs : List V) (Q : VK), A.guards = some [] → Room k (A.deeper (envOfC qual (defScope st) s.heap.objs.size f cdv)) → sp vs H Q E0 →
      ∃ t, PSs (cxOf CX0 P w K mg base N qual (defScope st) f cdv A outer s H E0).nox (defBody st) t ∧ t { nx := fun _ H' => Q .non H', rt := Q } (start N vs) H) : FnG P w K mg base (k + 1) f fd ps sp := by
  obtain ⟨oc, od, kV, doc, pm, an, cdv, ct, osl, rfl, lk, hcd⟩ := F.ex
  refine ⟨len, fun A outer s H args us vs Q hg hr e0 bd rv hs => ?_⟩
  have inK : K.In s.heap := e0.mod.kin.keeps fun b o e => (e0.bs b o e).1
  have nolim : s.heap.NoLimit := e0.mod.nolimit.keeps fun b o e => (e0.bs b o e).1
  refine codeAny_call_function hr.depth (inK _ _ lk) rfl S.co S.gen rfl (PySem.W.codeRec_of inK hcd) (bd _ _ _ _ ?_)
  refine wpAny_newFunctionEnv_cells S.kind (fun y hy => ?_) fun env he s1 ic => ?_
  · obtain ⟨n, v⟩ := y
    rcases S.par n (List.of_mem_zip hy).1 with z | z
    · exact .inl z
    · exact .inr ⟨z, PySem.W.cellsFrom_some _ _ _ (.inl z)⟩
  subst he
  refine ⟨nolim.keeps ic.toInCall.keep, codeAny_func ?_⟩
  obtain ⟨t, ht, hq⟩ := walk cdv A outer s H vs Q hg (hr.deeper _) hs
  have I := inv_start (CX := CX0) (E := E0) S hr.hd e0 (len _ _ _ _ hs) rv ic
  refine wpAny_mono (ht.nox.run [] s1 (start N vs) H _ I hq) (fun fl s' hf => ?_) fun e s' hf => hf
  match fl, hf with
  | .ret u, ⟨v, σ', H', J, r, q⟩ => exact ⟨v, H', J.os, J.bare, J.base, J.hok, r, q⟩
  | .next, ⟨σ', H', J, q⟩ => exact ⟨.non, H', J.os, J.bare, J.base, J.hok, rfl, q⟩
  | .brk, ⟨_, _, _, q⟩ => exact q.elim
  | .cont, ⟨_, _, _, q⟩ => exact q.elim

structure CalG (P : Program) (w : World) (K : PySem.W.Frag) (mg : Str → Option Value) (base : Heap) (k : Nat) (x : Str) (sp : Sp) : Prop where
  ex : ∃ (f : Addr) (fd : FuncData) (ps : List Str), FnG P w K mg base k f fd ps sp ∧ mg x = some (.ref f) ∧ PySem.W.keepIn K (.ref f) = true ∧ Binds K fd ps []
theorem Cal.g {P : Program} {w : World} {K : PySem.W.Frag} {mg : Str → Option Value} {base : Heap} {k : Nat} {x : Str} {sp : Sp} (c : Cal P w K mg base k x sp) : CalG P w K mg base k x sp := by
  obtain ⟨f, fd, ps, F, r⟩ := c.ex
  exact ⟨f, fd, ps, .of F, r⟩
section
variable {X : Cx} {k j : Nat} {x : Str} {sp : Sp} {p pos : Pos} {e : Expr} {es : List Expr} {t : TA}
theorem pe_g (c : CalG X.prog X.w X.K X.mg X.base k x sp) (hgd : X.A.guards = some []) (hr : Room j X.A) (hk : k ≤ j) (hg : Gl X x) (ha : PA X (e :: es) t)
    (hdb : (x == ("__debug__" : Str)) = false := by decide) (he : starEach (e :: es) X.env = (false, eval e X.env) :: starEach es X.env := by rfl) (hpl : (backTo pos (starEach es X.env)).any (·.1) = false := by rfl) :
    PE X (.Call (.Name x p) (e :: es) [] pos) (tCall sp [] E0 t) := by
  obtain ⟨f, fd, ps, F, hm, kp, b⟩ := c.ex
  refine ⟨fun pins s σ H Q I h => wpAny_Call_Name_kw (ld_glob I hg hm ?_ hdb)⟩
  refine PySem.W.callWith_K (h₀ := X.base) I.ok.mod.kin kp (thn (ha.run pos pins s σ H _ I h) fun us s1 ⟨vs, H1, I1, r, q⟩ => ⟨I1.kIn, ?_⟩) he hpl
  have q : sp (vs ++ []) H1 Q E0 := q
  rw [List.append_nil] at q
  have hl : (us ++ []).length = ps.length := by
    rw [List.append_nil, ← r.length]
    exact F.len _ _ _ _ q
  have bd := b s1 us I1.kIn hl
  rw [List.append_nil] at bd
  refine wpAny_call (codeAny_mono (F.run X.A X.stack s1 H1 ⟨us, []⟩ us vs Q hgd (hr.mono hk) I1.env0 bd r q) fun res s' hq => ?_)
  match res, hq with
  | .ok (.ret u), hq => exact I1.after hq
  | .ok .next, hq => exact False.elim hq
  | .ok .brk, hq => exact False.elim hq
  | .ok .cont, hq => exact False.elim hq
  | .error e, hq => exact False.elim hq
end

/-! ### the law's call -/
theorem lawG {P : Program} {w : World} {K : PySem.W.Frag} {mg mb : Str → Option Value} {k : Nat} {fa a : Addr} {fd : FuncData} {x : Str} {sp : Sp} {st : Shared} {vs : List Value} {ns : List Int}
    (inK : K.In st.heap) (gl : st.heap.Ns mainGlobals mg) (bl : st.heap.Ns builtinsNs mb) (blt : ∀ y : Str, y ≠ "__name__" → mb y = bootBuiltins y) (lim : st.heap.NoLimit) (gens : st.gens = #[])
    (at0 : st.heap.get? a = some { cls := .type "list", data := .seq vs.toArray }) (hint : IntsAre vs ns) (short : ns.length ≤ sizeLine) (room : Room k callerA)
    (F : ∀ base : Heap, K.In base → base.Ns mainGlobals mg → FnG P w K mg base k fa fd [x] sp) (bind : ∀ (s : Shared) (u : Value), BindsTo s fd ⟨[u], []⟩ [(x, u)])
    (prom : ∀ H : Hp, Only H → SqL K H a (ns.map V.int) → sp [.ref a] H (fun v _ => v = .bl true) E0) :
    codeAny (model P w) callerA (.call (.ref fa) ⟨[.ref a], []⟩) (fun r s' => r = .ok (.ret (.bool true)) ∧ OldK st.heap s'.heap ∧ s'.os = st.os ∧ AllBare s'.gens) st := by
  have rel := vals_ints hint
  have go : ∀ H : Hp, Only H → SqL K H a (ns.map V.int) → HOk P w H st.heap → (∀ b, H b ≠ none → b = a ∧ K.lookup b = none) →
      codeAny (model P w) callerA (.call (.ref fa) ⟨[.ref a], []⟩) (fun r s' => r = .ok (.ret (.bool true)) ∧ OldK st.heap s'.heap ∧ s'.os = st.os ∧ AllBare s'.gens) st := by
    intro H on sq ok sole
    have dicts : ∀ {b : Addr} {o : Obj} {es : Array DictEntry} {ep : Nat}, st.heap.get? b = some o → o.data = .dict es ep → H b = none := by
      intro b o es ep e d
      by_cases z : H b = none
      · exact z
      · obtain ⟨rfl, _⟩ := sole b z
        rw [at0] at e
        cases e
        cases d
    have names : ∀ {b : Addr} {m : Str → Option Value}, st.heap.Ns b m → (hidT st.heap H).Ns b m := by
      rintro b m ⟨o, es, ep, e, d, r⟩
      exact ⟨o, es, ep, hidT_get e (dicts e d), d, r⟩
    have kin : K.In (hidT st.heap H) := by
      intro b o e
      refine hidT_get (inK b o e) ?_
      by_cases z : H b = none
      · exact z
      · rw [(sole b z).2] at e
        cases e
    have md : Mod K mg (hidT st.heap H) := by
      obtain ⟨mc, l1, l2⟩ := lim
      exact ⟨kin, names gl, ⟨mb, names bl, blt⟩, ⟨mc, names l1, l2⟩⟩
    have env : Env0 P w K mg (hidT st.heap H) callerA [] st H :=
      ⟨rfl, md, fun b o e => of_hidT e, Nat.le_of_eq (hidT_size _ _), trivial, fun b z => absurd (show b ∈ ([] : List Addr) from z) (by simp), ok, .of_eq gens⟩
    refine codeAny_mono ((F _ kin (names gl)).run callerA [] st H ⟨[.ref a], []⟩ [.ref a] [.ref a] _ rfl room env (bind st (.ref a)) (.cons rfl .nil) (prom H on sq)) fun res s' hq => ?_
    match res, hq with
    | .ok .next, hq => exact False.elim hq
    | .ok .brk, hq => exact False.elim hq
    | .ok .cont, hq => exact False.elim hq
    | .error e, hq => exact False.elim hq
    | .ok (.ret u), ⟨v, H', os, bare, un, ok', r, q⟩ =>
      have q : v = .bl true := q
      subst q
      have r : u = Value.bool true := r
      subst r
      refine ⟨rfl, OldK.of_keep fun b o e => ?_, os, bare⟩
      by_cases z : H b = none
      · exact un.keep b o e z (fun y => absurd (show b ∈ ([] : List Addr) from y) (by simp)) (by simp)
      · rcases on b with y | ⟨ob, xs, y⟩
        · exact absurd y z
        · obtain ⟨p1, _⟩ := ok b _ y
          obtain ⟨p2, _⟩ := ok' b _ (un.frzs b ob _ y)
          rw [e] at p1
          cases p1
          exact p2
  by_cases hk : K.lookup a = none
  · refine go (upd (fun _ => none) a (.frz { cls := .type "list", data := .seq vs.toArray } (.lst (ns.map V.int)))) (fun b => ?_) (.inl (.inr ⟨_, upd_same⟩)) (fun b u z => ?_) (fun b z => ?_)
    · by_cases hb : b = a
      · subst hb
        exact .inr ⟨_, _, upd_same⟩
      · exact .inl (upd_ne hb)
    · by_cases hb : b = a
      · subst hb
        rw [upd_same] at z
        cases z
        exact ⟨at0, by rw [List.length_map]; exact short, vs, _, rel, at0⟩
      · rw [upd_ne hb] at z
        cases z
    · by_cases hb : b = a
      · subst hb
        exact ⟨rfl, hk⟩
      · exact absurd (upd_ne hb) z
  · obtain ⟨o, ho⟩ := Option.ne_none_iff_exists'.mp hk
    have e := inK a o ho
    rw [at0] at e
    cases e
    refine go (fun _ => none) (fun _ => .inl rfl) (.inr ⟨_, vs.toArray, _, ho, rfl, rfl, rfl, ?_, by simpa using rel⟩) (fun b u z => by cases z) (fun b z => absurd rfl z)
    rw [List.size_toArray, hint.length]
    exact short
theorem walkG {l : PySem.W.OpenLaw} {n k : Nat} {q : Program} {loose : List Str} {XP : (Str → Option Value) → Heap → Prop} {YP : World → Heap → Prop} {d : DefRec} {K : Params → PySem.W.Frag} {sp : World → Sp} {x : Str}
    (hn : l.most = some n) (hn2 : n ≤ sizeLine) (hdf : d.params.defaults = []) (hr : Room k callerA) (hY : ∀ (w : World) (h : Heap), YP w h → (K w.params).In h)
    (F : ∀ (w : World) (mg : Str → Option Value) (fa : Addr) (h : Heap), (K w.params).In h → h.Ns mainGlobals mg → mg d.name = some (.ref fa) →
      ∃ fd : FuncData, (∀ (s : Shared) (u : Value), BindsTo s fd ⟨[u], []⟩ [(x, u)]) ∧ ∀ base : Heap, (K w.params).In base → base.Ns mainGlobals mg → FnG l.prog w (K w.params) mg base k fa fd [x] (sp w))
    (hsp : ∀ (w : World) (H : Hp) (a : Addr) (ns : List Int), ns.length ≤ n → Only H → SqL (K w.params) H a (ns.map V.int) → sp w [.ref a] H (fun v _ => v = .bl true) E0) :
    PySem.W.WalkO q loose XP YP l.row.toRowW d [] (fun f vs => PySem.call f vs) := by
  refine Att.attach_call hn hdf fun w s0 s1 mg mb fa o pm cd doc a vs ns G Y _ _ _ hmg hobj hints hlen hg => ?_
  have inK := hY w _ Y
  obtain ⟨fd, hb, hF⟩ := F w mg fa _ inK G.T.g hmg
  exact lawG inK G.T.g G.T.b G.T.builtins G.T.nolimit hg hobj hints (Nat.le_trans hlen hn2) hr hF hb fun H on sq => hsp w H a ns hlen on sq

/-! ### repr -/
mutual
theorem Dp_nodict {K : PySem.W.Frag} {H : Hp} : ∀ {d : PyData} {v : V}, Dp K H v d → d.hasDict = false
  | .none, _, _ => by simp only [PyData.hasDict]
  | .bool _, _, _ => by simp only [PyData.hasDict]
  | .int _, _, _ => by simp only [PyData.hasDict]
  | .str _, _, _ => by simp only [PyData.hasDict]
  | .list ds, _, h => by
    cases h with
    | lst _ h => simp only [PyData.hasDict, DpAll_nodict h]
  | .tuple ds, _, h => by
    cases h with
    | tup _ h => simp only [PyData.hasDict, DpAll_nodict h]
  | .dict _, _, h => by cases h
theorem DpAll_nodict {K : PySem.W.Frag} {H : Hp} : ∀ {ds : List PyData} {vs : List V}, DpAll K H vs ds → PyData.hasDictAll ds = false
  | [], _, _ => by simp only [PyData.hasDictAll]
  | d :: ds, _, h => by
    cases h with
    | cons h1 h2 => simp only [PyData.hasDictAll, Dp_nodict h1, DpAll_nodict h2, Bool.or_self]
end
def rRepr (K : PySem.W.Frag) : List V → Hp → VK → Prop := fun vs H Q => ∃ (p : Addr) (d : PyData), vs = [.ref p] ∧ Dp K H (.ref p) d ∧ d.showable = true ∧ d.depth ≤ 60 ∧ d.shown.length ≤ sizeLine ∧ Q (.str d.shown) H
theorem cr_repr {X : Cx} (hg : X.A.guards = some []) (hu : X.A.units + 64 < cLine) : CallR X (.builtin "repr") (rRepr X.K) := by
  intro pins s σ H vs us Q I r h
  obtain ⟨p, d, rfl, hd, hs, hz, hl, q⟩ := h
  rw [Vals.ref1 r]
  obtain ⟨as, rd⟩ := Dp.reads I d (.ref p) (.ref p) hd rfl
  exact repr_of_reads' rd hs (PyData.noDict_hsm (Dp_nodict hd)) hg (by omega) (fun _ _ e => e) (fun h' u tk hk => ⟨.str _, H, I.kept hk, ⟨_, rfl⟩, q⟩) hl
end NG

namespace NG
open PySem PySem.Spec PyProof.Rows L2

/-! ### xs[::-1] -/
theorem pe_revL {X : Cx} {e st : Expr} {te ts : TE} {pos p2 : Pos} (he : PE X e te) (hs : PE X st ts) : PE X (.Subscript e (.Slice none none (some st) p2) pos)
    (fun σ H Q => te σ H fun x H1 => ts σ H1 fun y H2 => y = .int (-1) ∧ ∃ a xs, x = .ref a ∧ SqL X.K H2 a xs ∧ ∀ p, H2 p = none → Q (.ref p) (upd H2 p (.lst xs.reverse))) := by
  refine ⟨fun pins s σ H Q I h => ?_⟩
  refine Subscript_ (thn (he.run pins s σ H _ I h) fun v s1 ⟨x, H1, I1, r1, q1⟩ => ?_)
  refine wpAny_Slice ?_
  rw [evalPart_none]
  refine wpAny_pure (wpAny_pure ?_)
  rw [evalPart_some]
  refine thn (hs.run pins s1 σ H1 _ I1 q1) fun vk s2 ⟨y, H2, I2, r2, q2⟩ => ?_
  obtain ⟨rfl, a, xs, rfl, hx, q⟩ := q2
  obtain ⟨t, rfl⟩ := r2
  cases r1
  obtain ⟨its, rv, ht, hz⟩ := I2.list hx
  have I3 : Inv X pins σ H2 { s2 with heap := s2.heap.push { cls := .type "slice", data := .fields #[.none, .none, .int (-1) t] } } := I2.kept (t' := s2.toks) fun b ob q => Heap.get?_push_of_some _ q
  obtain ⟨its', rv', ht', _⟩ := I3.list hx
  have hl := rv'.length
  refine tail_any (ops := [.ref a, .ref s2.heap.objs.size]) ht'.isList.typeIs slot_list_getitem.lookup ?_ (by with_unfolding_all rfl)
  refine wpAny_getItem_list_slice ht'.isList (Heap.IsSliceOf.new ..) .none .none (.int (-1) t) (by decide) ?_ (by rw [List.size_toArray]; omega)
  rw [PySem.W.krv_pick]
  refine ⟨.ref _, _, I3.laid (t' := s2.toks) (o := .lst xs.reverse) (fun b ob q => Heap.get?_push_of_some _ q) (Nat.le_refl _) ?_, rfl, q _ (I3.hok.fresh (Nat.le_refl _))⟩
  refine ⟨by rw [List.length_reverse]; exact hz, its'.reverse, 0, ?_, Heap.get?_push_size _ rfl⟩
  have rev : ∀ {xs : List V} {us : List Value}, Vals xs us → Vals xs.reverse us.reverse := by
    intro xs us r
    induction r with
    | nil => exact .nil
    | cons h t ih =>
      rw [List.reverse_cons, List.reverse_cons]
      exact ih.append (.cons h .nil)
  exact rev rv'

/-! ### calls by keywords alone, handed in from the last parameter to the first -/
theorem Vals.rev {xs : List V} {us : List Value} (r : Vals xs us) : Vals xs.reverse us.reverse := by
  induction r with
  | nil => exact .nil
  | cons h t ih =>
    rw [List.reverse_cons, List.reverse_cons]
    exact ih.append (.cons h .nil)
structure CalK (P : Program) (w : World) (K : PySem.W.Frag) (mg : Str → Option Value) (base : Heap) (k : Nat) (x : Str) (ks : List Str) (sp : Sp) : Prop where
  ex : ∃ (f : Addr) (fd : FuncData), FnG P w K mg base k f fd ks.reverse sp ∧ mg x = some (.ref f) ∧ PySem.W.keepIn K (.ref f) = true ∧ ∀ (s : Shared) (ws : List Value), ws.length = ks.length → BindsTo s fd ⟨[], ks.zip ws⟩ (ks.reverse.zip ws.reverse)
section
variable {X : Cx} {k j : Nat} {x : Str} {ks : List Str} {sp : Sp} {p pos : Pos} {kws : List Keyword} {tk : TA}
theorem pe_kw (c : CalK X.prog X.w X.K X.mg X.base k x ks sp) (hgd : X.A.guards = some []) (hr : Room j X.A) (hk : k ≤ j) (hg : Gl X x) (hkw : PK X kws tk) (hall : (backToKw pos (keywordEach kws X.env)).all (·.1.isSome) = true := by rfl) (hks : (backToKw pos (keywordEach kws X.env)).filterMap (·.1) = ks := by rfl)
    (hdb : (x == ("__debug__" : Str)) = false := by decide) (hpl : ((backTo pos (starEach [] X.env)).any (·.1) || (backToKw pos (keywordEach kws X.env)).any (·.1.isNone)) = false := by rfl) :
    PE X (.Call (.Name x p) [] kws pos) (fun σ H Q => tk σ H fun zs H2 => zs.length = ks.length ∧ sp zs.reverse H2 Q E0) := by
  obtain ⟨f, fd, F, hm, kp, b⟩ := c.ex
  refine ⟨fun pins s σ H Q I h => wpAny_Call_Name_kw (ld_glob I hg hm ?_ hdb)⟩
  refine PySem.W.callWith_KW0 (h₀ := X.base) I.ok.mod.kin kp hall (thn (hkw.run pos pins s σ H _ I h) fun ws s2 ⟨zs, H2, I2, rz, hl, q⟩ => ⟨I2.kIn, ?_⟩) hpl
  rw [hks]
  refine wpAny_call (codeAny_mono (F.run X.A X.stack s2 H2 ⟨[], ks.zip ws⟩ ws.reverse zs.reverse Q hgd (hr.mono hk) I2.env0 (b s2 ws (by rw [← rz.length]; exact hl)) (Vals.rev rz) q) fun res s' hq => ?_)
  match res, hq with
  | .ok (.ret u), hq => exact I2.after hq
  | .ok .next, hq => exact False.elim hq
  | .ok .brk, hq => exact False.elim hq
  | .ok .cont, hq => exact False.elim hq
  | .error e, hq => exact False.elim hq
end

/-! ### an expression as its items -/
inductive Itm where
  | s (x : Str) | i (c : Int) | k (e : Ex)
def ItAt (K : PySem.W.Frag) (H : Hp) : Itm → V → Prop
  | .s x, v => v = .str x
  | .i c, v => v = .int c
  | .k e, v => ExAt K H e v
def ItsAt (K : PySem.W.Frag) (H : Hp) : List V → List Itm → Prop
  | [], [] => True
  | v :: vs, t :: ts => ItAt K H t v ∧ ItsAt K H vs ts
  | _, _ => False
def Ex.items : Ex → List Itm
  | .fig c => [.s "fig", .i c]
  | .reg i => [.s "reg", .i (i : Int)]
  | .share j => [.s "share", .i (j : Int)]
  | .two w a b => [.s (wn w), .k a, .k b]
  | .times f a => [.s "times", .i f, .k a]
  | .by i a => [.s "by", .i (i : Int), .k a]
  | .when i c a b => [.s "when", .i (i : Int), .i c, .k a, .k b]
  | .whr j c a b => [.s "where", .i (j : Int), .i c, .k a, .k b]
def kidsI : List Itm → List Ex
  | [] => []
  | .k e :: r => e :: kidsI r
  | .s _ :: r => kidsI r
  | .i _ :: r => kidsI r
theorem kidsI_items (e : Ex) : kidsI e.items = e.kids := by cases e <;> rfl
theorem kidsI_append : ∀ (l r : List Itm), kidsI (l ++ r) = kidsI l ++ kidsI r
  | [], r => rfl
  | .k e :: l, r => by
    show e :: kidsI (l ++ r) = e :: (kidsI l ++ kidsI r)
    rw [kidsI_append l r]
  | .s _ :: l, r => kidsI_append l r
  | .i _ :: l, r => kidsI_append l r
theorem ExAt.its {K : PySem.W.Frag} {H : Hp} : ∀ {e : Ex} {v : V}, ExAt K H e v → ∃ p xs, v = .ref p ∧ SqT K H p xs ∧ ItsAt K H xs e.items
  | .fig _, _, ⟨p, e, q⟩ => ⟨p, _, e, q, rfl, rfl, trivial⟩
  | .reg _, _, ⟨p, e, q⟩ => ⟨p, _, e, q, rfl, rfl, trivial⟩
  | .share _, _, ⟨p, e, q⟩ => ⟨p, _, e, q, rfl, rfl, trivial⟩
  | .two _ _ _, _, ⟨p, x, y, e, q, a, b⟩ => ⟨p, _, e, q, rfl, a, b, trivial⟩
  | .times _ _, _, ⟨p, x, e, q, a⟩ => ⟨p, _, e, q, rfl, rfl, a, trivial⟩
  | .by _ _, _, ⟨p, x, e, q, a⟩ => ⟨p, _, e, q, rfl, rfl, a, trivial⟩
  | .when _ _ _ _, _, ⟨p, x, y, e, q, a, b⟩ => ⟨p, _, e, q, rfl, rfl, rfl, a, b, trivial⟩
  | .whr _ _ _ _, _, ⟨p, x, y, e, q, a, b⟩ => ⟨p, _, e, q, rfl, rfl, rfl, a, b, trivial⟩
theorem ItsAt.get {K : PySem.W.Frag} {H : Hp} : ∀ {vs : List V} {ts : List Itm} {k : Nat} {v : V}, ItsAt K H vs ts → vs[k]? = some v → ∃ t, ts[k]? = some t ∧ ItAt K H t v
  | [], [], _, _, _, h => by simp at h
  | v' :: vs, t :: ts, 0, v, ⟨x, r⟩, h => by
    have : v' = v := Option.some.inj h
    subst this
    exact ⟨t, rfl, x⟩
  | v' :: vs, t :: ts, k + 1, v, ⟨x, r⟩, h => ItsAt.get (k := k) r h
theorem ItsAt.len {K : PySem.W.Frag} {H : Hp} : ∀ {vs : List V} {ts : List Itm}, ItsAt K H vs ts → vs.length = ts.length
  | [], [], _ => rfl
  | _ :: _, _ :: _, ⟨_, r⟩ => by rw [List.length_cons, List.length_cons, r.len]
theorem tyx_tup {K : PySem.W.Frag} {H : Hp} {p : Addr} {xs : List V} (h : SqT K H p xs) : TyX K H (.ref p) (.type "tuple") := by
  rcases h with (h | ⟨o, h⟩) | ⟨o, its, n, h1, h2, _⟩
  · exact .base (.tup h)
  · exact .fTuple h
  · exact .kTuple h1 h2
def Itm.isK : Itm → Bool
  | .k _ => true
  | _ => false
theorem isi_item {K : PySem.W.Frag} {H : Hp} {t : Itm} {v : V} (h : ItAt K H t v) : ∃ ty, TyX K H v ty ∧ PySem.W.kitOne K ty (.type "tuple") = some t.isK := by
  cases t with
  | s x =>
    have h : v = .str x := h
    subst h
    exact ⟨_, .base (.str x), kit_ty (show kitB "str" "tuple" = some false by decide +kernel)⟩
  | i c =>
    have h : v = .int c := h
    subst h
    exact ⟨_, .base (.int c), kit_ty (show kitB "int" "tuple" = some false by decide +kernel)⟩
  | k e =>
    obtain ⟨p, xs, rfl, hp, _⟩ := ExAt.its h
    exact ⟨_, tyx_tup hp, kit_ty (show kitB "tuple" "tuple" = some true by decide +kernel)⟩

/-! ### as data, for repr -/
def toI : Itm → (Ex → PyData) → PyData
  | .s x, _ => .str x
  | .i c, _ => .int c
  | .k e, f => f e
def toD : Ex → PyData
  | .fig c => .tuple [.str "fig", .int c]
  | .reg i => .tuple [.str "reg", .int (i : Int)]
  | .share j => .tuple [.str "share", .int (j : Int)]
  | .two w a b => .tuple [.str (wn w), toD a, toD b]
  | .times f a => .tuple [.str "times", .int f, toD a]
  | .by i a => .tuple [.str "by", .int (i : Int), toD a]
  | .when i c a b => .tuple [.str "when", .int (i : Int), .int c, toD a, toD b]
  | .whr j c a b => .tuple [.str "where", .int (j : Int), .int c, toD a, toD b]
theorem ExAt.dp {K : PySem.W.Frag} {H : Hp} : ∀ {e : Ex} {v : V}, ExAt K H e v → Dp K H v (toD e)
  | .fig _, _, ⟨p, e, q⟩ => by subst e; exact .tup q (.cons (.str _) (.cons (.int _) .nil))
  | .reg _, _, ⟨p, e, q⟩ => by subst e; exact .tup q (.cons (.str _) (.cons (.int _) .nil))
  | .share _, _, ⟨p, e, q⟩ => by subst e; exact .tup q (.cons (.str _) (.cons (.int _) .nil))
  | .two _ _ _, _, ⟨p, x, y, e, q, a, b⟩ => by subst e; exact .tup q (.cons (.str _) (.cons a.dp (.cons b.dp .nil)))
  | .times _ _, _, ⟨p, x, e, q, a⟩ => by subst e; exact .tup q (.cons (.str _) (.cons (.int _) (.cons a.dp .nil)))
  | .by _ _, _, ⟨p, x, e, q, a⟩ => by subst e; exact .tup q (.cons (.str _) (.cons (.int _) (.cons a.dp .nil)))
  | .when _ _ _ _, _, ⟨p, x, y, e, q, a, b⟩ => by subst e; exact .tup q (.cons (.str _) (.cons (.int _) (.cons (.int _) (.cons a.dp (.cons b.dp .nil)))))
  | .whr _ _ _ _, _, ⟨p, x, y, e, q, a, b⟩ => by subst e; exact .tup q (.cons (.str _) (.cons (.int _) (.cons (.int _) (.cons a.dp (.cons b.dp .nil)))))
/-- short enough to be shown: every number below 2 ^ 600, every sign small -/
structure Shw (d : PyData) (w k : Nat) : Prop where
  sh : d.showable = true
  lf : d.leavesShort 700 = true
  wt : d.weight ≤ w
  dp : d.depth ≤ k
theorem log_of {i : Int} (h : i.natAbs < 2 ^ 600) : i.natAbs.log2 < 600 := PySem.Flt.log2_lt_of (by decide) h
theorem Shw.int {i : Int} (h : i.natAbs < 2 ^ 600) : Shw (.int i) 601 0 := by
  have hl := log_of h
  refine ⟨?_, ?_, ?_, Nat.le_refl _⟩
  · show decide (i.natAbs.log2 < 1920) = true
    exact decide_eq_true (by omega)
  · show decide ((PyData.shown (.int i)).length ≤ 700) = true
    refine decide_eq_true ?_
    have e := int_text_length_le (k := 600) (by decide) hl
    show (Str.ofString (toString i)).length ≤ 700
    rw [PySem.ofString_length]
    omega
  · show (if i == 0 then 0 else i.natAbs.log2 + 1) ≤ 601
    split <;> omega
theorem Shw.small {i : Int} (h : i.natAbs < 2 ^ 15) : Shw (.int i) 15 0 := by
  have hl : i.natAbs.log2 < 15 := PySem.Flt.log2_lt_of (by decide) h
  have h6 := Shw.int (i := i) (Nat.lt_of_lt_of_le h (Nat.pow_le_pow_right (by decide) (by decide)))
  refine ⟨h6.sh, h6.lf, ?_, Nat.le_refl _⟩
  show (if i == 0 then 0 else i.natAbs.log2 + 1) ≤ 15
  split <;> omega
theorem Shw.str {x : Str} (h : (x.cps.toList.all fun c => decide (c < 16 ^ 8)) = true) (hl : x.cps.size ≤ 10) : Shw (.str x) 10 0 := ⟨rfl, h, hl, Nat.le_refl _⟩
structure ShwAll (ds : List PyData) (w k : Nat) : Prop where
  sh : PyData.showableAll ds = true
  lf : PyData.leavesShortAll 700 ds = true
  wt : PyData.weightAll ds ≤ w
  dp : PyData.depthAll ds ≤ k
theorem ShwAll.nil {k : Nat} : ShwAll [] 0 k := ⟨rfl, rfl, Nat.le_refl _, Nat.zero_le _⟩
theorem ShwAll.cons {d : PyData} {ds : List PyData} {w1 w2 k1 k2 k : Nat} (h1 : Shw d w1 k1) (h2 : ShwAll ds w2 k2) (hk1 : k1 ≤ k) (hk2 : k2 ≤ k) : ShwAll (d :: ds) (w1 + 1 + w2) k := by
  refine ⟨?_, ?_, ?_, ?_⟩
  · show (d.showable && PyData.showableAll ds) = true
    rw [h1.sh, h2.sh]
    rfl
  · show (d.leavesShort 700 && PyData.leavesShortAll 700 ds) = true
    rw [h1.lf, h2.lf]
    rfl
  · show d.weight + 1 + PyData.weightAll ds ≤ _
    have := h1.wt
    have := h2.wt
    omega
  · show max d.depth (PyData.depthAll ds) ≤ k
    have := h1.dp
    have := h2.dp
    omega
theorem ShwAll.tup {ds : List PyData} {w k : Nat} (h : ShwAll ds w k) : Shw (.tuple ds) w (k + 1) := ⟨h.sh, h.lf, h.wt, by show PyData.depthAll ds + 1 ≤ k + 1; have := h.dp; omega⟩
theorem ShwAll.lst {ds : List PyData} {w k : Nat} (h : ShwAll ds w k) : Shw (.list ds) w (k + 1) := ⟨h.sh, h.lf, h.wt, by show PyData.depthAll ds + 1 ≤ k + 1; have := h.dp; omega⟩
theorem Shw.mono {d : PyData} {w w' k k' : Nat} (h : Shw d w k) (hw : w ≤ w') (hk : k ≤ k') : Shw d w' k' := ⟨h.sh, h.lf, Nat.le_trans h.wt hw, Nat.le_trans h.dp hk⟩
theorem Shw.fits {d : PyData} {w k : Nat} (h : Shw d w k) (hw : w ≤ 20000) : d.shown.length ≤ sizeLine := by
  have := PyData.shown_le 700 (by decide) d h.lf
  have := h.wt
  have e : sizeLine = 16777216 := by decide
  omega
def wgt : Nat → Nat
  | 0 => 0
  | n + 1 => 2 * wgt n + 60
theorem wgt_mono : ∀ {m n : Nat}, m ≤ n → wgt m ≤ wgt n
  | 0, _, _ => Nat.zero_le _
  | m + 1, 0, h => absurd h (by omega)
  | m + 1, n + 1, h => by
    have := wgt_mono (m := m) (n := n) (by omega)
    show 2 * wgt m + 60 ≤ 2 * wgt n + 60
    omega
theorem shw_ex {many : Nat} (hm : many ≤ 1000) : ∀ {e : Ex}, ExOk many e → Shw (toD e) (wgt e.dep) e.dep
  | .fig c, o => (ShwAll.tup (.cons (.str (by decide) (by decide)) (.cons (.small (by have := o.1; have := o.2; omega)) .nil (Nat.le_refl 0) (Nat.le_refl 0)) (Nat.le_refl 0) (Nat.le_refl 0))).mono (show _ ≤ wgt 1 by decide) (show 0 + 1 ≤ 1 by decide)
  | .reg i, o => by
    have o : i < 4 := o
    exact (ShwAll.tup (.cons (.str (by decide) (by decide)) (.cons (.small (by omega)) .nil (Nat.le_refl 0) (Nat.le_refl 0)) (Nat.le_refl 0) (Nat.le_refl 0))).mono (show _ ≤ wgt 1 by decide) (show 0 + 1 ≤ 1 by decide)
  | .share j, o => by
    have o : j < many := o
    exact (ShwAll.tup (.cons (.str (by decide) (by decide)) (.cons (.small (by omega)) .nil (Nat.le_refl 0) (Nat.le_refl 0)) (Nat.le_refl 0) (Nat.le_refl 0))).mono (show _ ≤ wgt 1 by decide) (show 0 + 1 ≤ 1 by decide)
  | .two w a b, o => by
    have ha := shw_ex hm (e := a) o.1
    have hb := shw_ex hm (e := b) o.2
    have hw : Shw (.str (wn w)) 10 0 := by cases w <;> exact .str (by decide) (by decide)
    have h1 := wgt_mono (Nat.le_max_left a.dep b.dep)
    have h2 := wgt_mono (Nat.le_max_right a.dep b.dep)
    refine (ShwAll.tup (.cons hw (.cons ha (.cons hb .nil (Nat.le_refl _) (Nat.zero_le _)) (Nat.le_max_left a.dep b.dep) (Nat.le_max_right a.dep b.dep)) (Nat.zero_le _) (Nat.le_refl _))).mono ?_ (Nat.le_refl _)
    show 10 + 1 + (wgt a.dep + 1 + (wgt b.dep + 1 + 0)) ≤ 2 * wgt (max a.dep b.dep) + 60
    omega
  | .times f a, o => by
    have ha := shw_ex hm (e := a) o.2
    refine (ShwAll.tup (.cons (.str (by decide) (by decide)) (.cons (.small (by have := o.1; omega)) (.cons ha .nil (Nat.le_refl _) (Nat.zero_le _)) (Nat.zero_le _) (Nat.le_refl _)) (Nat.zero_le _) (Nat.le_refl _))).mono ?_ (Nat.le_refl _)
    show 10 + 1 + (15 + 1 + (wgt a.dep + 1 + 0)) ≤ 2 * wgt a.dep + 60
    omega
  | .by i a, o => by
    have ha := shw_ex hm (e := a) o.2
    refine (ShwAll.tup (.cons (.str (by decide) (by decide)) (.cons (.small (by have := o.1; omega)) (.cons ha .nil (Nat.le_refl _) (Nat.zero_le _)) (Nat.zero_le _) (Nat.le_refl _)) (Nat.zero_le _) (Nat.le_refl _))).mono ?_ (Nat.le_refl _)
    show 10 + 1 + (15 + 1 + (wgt a.dep + 1 + 0)) ≤ 2 * wgt a.dep + 60
    omega
  | .when i c a b, o => by
    have ha := shw_ex hm (e := a) o.2.2.1
    have hb := shw_ex hm (e := b) o.2.2.2
    have h1 := wgt_mono (Nat.le_max_left a.dep b.dep)
    have h2 := wgt_mono (Nat.le_max_right a.dep b.dep)
    refine (ShwAll.tup (.cons (.str (by decide) (by decide)) (.cons (.small (by have := o.1; omega)) (.cons (.small (by have := o.2.1; omega)) (.cons ha (.cons hb .nil (Nat.le_refl _) (Nat.zero_le _)) (Nat.le_max_left a.dep b.dep) (Nat.le_max_right a.dep b.dep)) (Nat.zero_le _) (Nat.le_refl _)) (Nat.zero_le _) (Nat.le_refl _)) (Nat.zero_le _) (Nat.le_refl _))).mono ?_ (Nat.le_refl _)
    show 10 + 1 + (15 + 1 + (15 + 1 + (wgt a.dep + 1 + (wgt b.dep + 1 + 0)))) ≤ 2 * wgt (max a.dep b.dep) + 60
    omega
  | .whr i c a b, o => by
    have ha := shw_ex hm (e := a) o.2.2.1
    have hb := shw_ex hm (e := b) o.2.2.2
    have h1 := wgt_mono (Nat.le_max_left a.dep b.dep)
    have h2 := wgt_mono (Nat.le_max_right a.dep b.dep)
    refine (ShwAll.tup (.cons (.str (by decide) (by decide)) (.cons (.small (by have := o.1; omega)) (.cons (.small (by have := o.2.1; omega)) (.cons ha (.cons hb .nil (Nat.le_refl _) (Nat.zero_le _)) (Nat.le_max_left a.dep b.dep) (Nat.le_max_right a.dep b.dep)) (Nat.zero_le _) (Nat.le_refl _)) (Nat.zero_le _) (Nat.le_refl _)) (Nat.zero_le _) (Nat.le_refl _))).mono ?_ (Nat.le_refl _)
    show 10 + 1 + (15 + 1 + (15 + 1 + (wgt a.dep + 1 + (wgt b.dep + 1 + 0)))) ≤ 2 * wgt (max a.dep b.dep) + 60
    omega
/-- numbers of spans and worths stay below 2 ^ 600 -/
theorem spn_bnd : ∀ {many : Nat} {e : Ex}, ExOk many e → (spn e).1.natAbs ≤ 1000 * 2000 ^ e.dep ∧ (spn e).2.natAbs ≤ 1000 * 2000 ^ e.dep := by
  intro many e
  have up : ∀ {m n : Nat}, m ≤ n → 1000 * 2000 ^ m ≤ 1000 * 2000 ^ n := fun h => Nat.mul_le_mul_left _ (Nat.pow_le_pow_right (by decide) h)
  have nx : ∀ n : Nat, 1000 * 2000 ^ (n + 1) = 2000 * (1000 * 2000 ^ n) := fun n => by rw [Nat.pow_succ]; omega
  induction e with
  | fig c =>
    intro o
    have := o.1
    have := o.2
    show c.natAbs ≤ 1000 * 2000 ^ 1 ∧ c.natAbs ≤ 1000 * 2000 ^ 1
    omega
  | reg i =>
    intro o
    show (-1000 : Int).natAbs ≤ 1000 * 2000 ^ 1 ∧ (1000 : Int).natAbs ≤ 1000 * 2000 ^ 1
    decide
  | share j =>
    intro o
    show (0 : Int).natAbs ≤ 1000 * 2000 ^ 1 ∧ (1000 : Int).natAbs ≤ 1000 * 2000 ^ 1
    decide
  | two w a b iha ihb =>
    intro o
    have ha := iha o.1
    have hb := ihb o.2
    have h1 := up (Nat.le_max_left a.dep b.dep)
    have h2 := up (Nat.le_max_right a.dep b.dep)
    show (js w (spn a) (spn b)).1.natAbs ≤ 1000 * 2000 ^ (max a.dep b.dep + 1) ∧ (js w (spn a) (spn b)).2.natAbs ≤ 1000 * 2000 ^ (max a.dep b.dep + 1)
    rw [nx]
    cases w with
    | sum => simp only [js]; omega
    | less => simp only [js]; omega
    | least => simp only [js, mn]; split <;> split <;> omega
    | most => simp only [js, mx]; split <;> split <;> omega
  | times f a ih =>
    intro o
    have ha := ih o.2
    have hf : f.natAbs ≤ 9 := by have := o.1; omega
    have m1 : (f * (spn a).1).natAbs ≤ 9 * (1000 * 2000 ^ a.dep) := by rw [Int.natAbs_mul]; exact Nat.mul_le_mul hf ha.1
    have m2 : (f * (spn a).2).natAbs ≤ 9 * (1000 * 2000 ^ a.dep) := by rw [Int.natAbs_mul]; exact Nat.mul_le_mul hf ha.2
    show (mn _ _).natAbs ≤ 1000 * 2000 ^ (a.dep + 1) ∧ (mx _ _).natAbs ≤ 1000 * 2000 ^ (a.dep + 1)
    rw [nx]
    unfold mn mx
    split <;> split <;> omega
  | «by» i a ih =>
    intro o
    have ha := ih o.2
    have m1 : (mx (ab (spn a).1) (ab (spn a).2)).natAbs ≤ 1000 * 2000 ^ a.dep := by
      unfold mx ab
      repeat' split
      all_goals omega
    show (-1000 * mx _ _).natAbs ≤ 1000 * 2000 ^ (a.dep + 1) ∧ (1000 * mx _ _).natAbs ≤ 1000 * 2000 ^ (a.dep + 1)
    rw [nx]
    omega
  | when i c a b iha ihb =>
    intro o
    have ha := iha o.2.2.1
    have hb := ihb o.2.2.2
    have h1 := up (Nat.le_max_left a.dep b.dep)
    have h2 := up (Nat.le_max_right a.dep b.dep)
    show (mn _ _).natAbs ≤ 1000 * 2000 ^ (max a.dep b.dep + 1) ∧ (mx _ _).natAbs ≤ 1000 * 2000 ^ (max a.dep b.dep + 1)
    rw [nx]
    unfold mn mx
    split <;> split <;> omega
  | whr i c a b iha ihb =>
    intro o
    have ha := iha o.2.2.1
    have hb := ihb o.2.2.2
    have h1 := up (Nat.le_max_left a.dep b.dep)
    have h2 := up (Nat.le_max_right a.dep b.dep)
    show (mn _ _).natAbs ≤ 1000 * 2000 ^ (max a.dep b.dep + 1) ∧ (mx _ _).natAbs ≤ 1000 * 2000 ^ (max a.dep b.dep + 1)
    rw [nx]
    unfold mn mx
    split <;> split <;> omega
theorem bnd_600 {d : Nat} {x : Int} (hd : d ≤ 10) (h : x.natAbs ≤ 1000 * 2000 ^ d) : x.natAbs < 2 ^ 300 := by
  have h1 : 1000 * 2000 ^ d ≤ 1000 * 2000 ^ 10 := Nat.mul_le_mul_left _ (Nat.pow_le_pow_right (by decide) hd)
  have h2 : (1000 * 2000 ^ 10 : Nat) < 2 ^ 300 := by decide
  omega
end NG

namespace NG
open PySem PySem.Spec PyProof.Rows L2

/-! ### leaves and borders -/
def lvs : Ex → Int
  | .fig _ => 1
  | .reg _ => 1
  | .share _ => 1
  | .two .sum a b => lvs a * lvs b
  | .two .less a b => lvs a * lvs b
  | .two .least a b => lvs a + lvs b
  | .two .most a b => lvs a + lvs b
  | .times _ a => lvs a
  | .by _ a => lvs a
  | .when _ _ a b => mx (lvs a) (lvs b)
  | .whr _ _ a b => lvs a + lvs b
def bds : Ex → Int
  | .fig _ => 0
  | .reg _ => 0
  | .share _ => 0
  | .two .sum a b => bds a + bds b
  | .two .less a b => bds a + bds b
  | .two .least a b => bds a + bds b + lvs a * lvs b
  | .two .most a b => bds a + bds b + lvs a * lvs b
  | .times _ a => bds a
  | .by _ a => bds a
  | .when _ _ a b => mx (bds a) (bds b)
  | .whr _ _ a b => bds a + bds b + 1
def bnd : Nat → Nat
  | 0 => 1
  | n + 1 => bnd n * bnd n + 2 * bnd n
theorem bnd_pos : ∀ n, 1 ≤ bnd n
  | 0 => Nat.le_refl _
  | n + 1 => by
    have := bnd_pos n
    show 1 ≤ bnd n * bnd n + 2 * bnd n
    omega
theorem bnd_up : ∀ {m n : Nat}, m ≤ n → bnd m ≤ bnd n := by
  intro m n h
  induction h with
  | refl => exact Nat.le_refl _
  | step _ ih =>
    refine Nat.le_trans ih ?_
    show _ ≤ bnd _ * bnd _ + 2 * bnd _
    omega
theorem lb_bnd : ∀ e : Ex, (lvs e).natAbs ≤ bnd e.dep ∧ (bds e).natAbs ≤ bnd e.dep := by
  intro e
  have pm : ∀ {x y : Int} {B : Nat}, x.natAbs ≤ B → y.natAbs ≤ B → (x * y).natAbs ≤ B * B := fun hx hy => by rw [Int.natAbs_mul]; exact Nat.mul_le_mul hx hy
  induction e with
  | fig c => exact ⟨by show 1 ≤ bnd 1; exact bnd_pos 1, Nat.zero_le _⟩
  | reg c => exact ⟨by show 1 ≤ bnd 1; exact bnd_pos 1, Nat.zero_le _⟩
  | share c => exact ⟨by show 1 ≤ bnd 1; exact bnd_pos 1, Nat.zero_le _⟩
  | two w a b iha ihb =>
    have h1 := bnd_up (Nat.le_max_left a.dep b.dep)
    have h2 := bnd_up (Nat.le_max_right a.dep b.dep)
    have hm := pm (Nat.le_trans iha.1 h1) (Nat.le_trans ihb.1 h2)
    show (lvs (.two w a b)).natAbs ≤ bnd (max a.dep b.dep) * bnd (max a.dep b.dep) + 2 * bnd (max a.dep b.dep) ∧ (bds (.two w a b)).natAbs ≤ bnd (max a.dep b.dep) * bnd (max a.dep b.dep) + 2 * bnd (max a.dep b.dep)
    cases w <;> simp only [lvs, bds] <;> omega
  | times f a ih =>
    show (lvs a).natAbs ≤ bnd a.dep * bnd a.dep + 2 * bnd a.dep ∧ (bds a).natAbs ≤ bnd a.dep * bnd a.dep + 2 * bnd a.dep
    omega
  | «by» i a ih =>
    show (lvs a).natAbs ≤ bnd a.dep * bnd a.dep + 2 * bnd a.dep ∧ (bds a).natAbs ≤ bnd a.dep * bnd a.dep + 2 * bnd a.dep
    omega
  | when i c a b iha ihb =>
    have h1 := bnd_up (Nat.le_max_left a.dep b.dep)
    have h2 := bnd_up (Nat.le_max_right a.dep b.dep)
    show (mx (lvs a) (lvs b)).natAbs ≤ bnd (max a.dep b.dep) * bnd (max a.dep b.dep) + 2 * bnd (max a.dep b.dep) ∧ (mx (bds a) (bds b)).natAbs ≤ bnd (max a.dep b.dep) * bnd (max a.dep b.dep) + 2 * bnd (max a.dep b.dep)
    unfold mx
    split <;> split <;> omega
  | whr i c a b iha ihb =>
    have h1 := bnd_up (Nat.le_max_left a.dep b.dep)
    have h2 := bnd_up (Nat.le_max_right a.dep b.dep)
    have h3 := bnd_pos (max a.dep b.dep)
    have h4 : bnd (max a.dep b.dep) ≤ bnd (max a.dep b.dep) * bnd (max a.dep b.dep) := Nat.le_mul_of_pos_left _ h3
    show (lvs a + lvs b).natAbs ≤ bnd (max a.dep b.dep) * bnd (max a.dep b.dep) + 2 * bnd (max a.dep b.dep) ∧ (bds a + bds b + 1).natAbs ≤ bnd (max a.dep b.dep) * bnd (max a.dep b.dep) + 2 * bnd (max a.dep b.dep)
    omega
theorem lvs_mul {e : Ex} {y : Int} (h : e.dep ≤ 5) : CMul (lvs e) y := by
  have h1 := (lb_bnd e).1
  have h2 := bnd_up h
  have h3 : bnd 5 < 2 ^ 64 := by decide
  exact .inl ⟨by omega, by omega⟩
theorem lb_600 {e : Ex} (h : e.dep ≤ 6) : (lvs e).natAbs < 2 ^ 600 ∧ (bds e).natAbs < 2 ^ 600 := by
  have h1 := lb_bnd e
  have h2 := bnd_up h
  have h3 : bnd 6 < 2 ^ 600 := by decide
  omega
def spCnt (K : PySem.W.Frag) (f : Ex → Int) (n : Nat) : Sp := fun vs H Q _ => ∃ (v : V) (e : Ex) (many : Nat), vs = [v] ∧ ExAt K H e v ∧ ExOk many e ∧ e.dep ≤ n ∧ e.dep ≤ 6 ∧ ∀ H', Same H H' → Q (.int (f e)) H'
def spLB (K : PySem.W.Frag) (n : Nat) : Sp := fun vs H Q _ => ∃ (v : V) (e : Ex) (many : Nat), vs = [v] ∧ ExAt K H e v ∧ ExOk many e ∧ e.dep ≤ n ∧ e.dep ≤ 6 ∧ ∀ H' u, Same H H' → SpAt K H' (lvs e, bds e) u → Q u H'

/-! ### the law's own reading -/
def Ex.rest : Ex → List Itm
  | .fig c => [.i c]
  | .reg i => [.i (i : Int)]
  | .share j => [.i (j : Int)]
  | .two _ a b => [.k a, .k b]
  | .times f a => [.i f, .k a]
  | .by i a => [.i (i : Int), .k a]
  | .when i c a b => [.i (i : Int), .i c, .k a, .k b]
  | .whr j c a b => [.i (j : Int), .i c, .k a, .k b]
theorem kidsI_rest (e : Ex) : kidsI e.rest = e.kids := by cases e <;> rfl
theorem rest_len (e : Ex) : e.rest.length ≤ 4 := by cases e <;> simp [Ex.rest]
theorem ItsAt.imp {K : PySem.W.Frag} {H H' : Hp} (sm : Same H H') : ∀ {vs : List V} {ts : List Itm}, ItsAt K H vs ts → ItsAt K H' vs ts
  | [], [], _ => trivial
  | _ :: _, .s _ :: _, ⟨x, r⟩ => ⟨x, r.imp sm⟩
  | _ :: _, .i _ :: _, ⟨x, r⟩ => ⟨x, r.imp sm⟩
  | _ :: _, .k e :: _, ⟨x, r⟩ => ⟨ExAt.same (e := e) x sm, r.imp sm⟩
theorem ExAt.rst {K : PySem.W.Frag} {H : Hp} : ∀ {e : Ex} {v : V}, ExAt K H e v → ∃ p xs, v = .ref p ∧ SqT K H p (.str (wordOf e) :: xs) ∧ 0 < xs.length ∧ ItsAt K H xs e.rest
  | .fig _, _, ⟨p, e, q⟩ => ⟨p, _, e, q, by simp, rfl, trivial⟩
  | .reg _, _, ⟨p, e, q⟩ => ⟨p, _, e, q, by simp, rfl, trivial⟩
  | .share _, _, ⟨p, e, q⟩ => ⟨p, _, e, q, by simp, rfl, trivial⟩
  | .two _ _ _, _, ⟨p, x, y, e, q, a, b⟩ => ⟨p, _, e, q, by simp, a, b, trivial⟩
  | .times _ _, _, ⟨p, x, e, q, a⟩ => ⟨p, _, e, q, by simp, rfl, a, trivial⟩
  | .by _ _, _, ⟨p, x, e, q, a⟩ => ⟨p, _, e, q, by simp, rfl, a, trivial⟩
  | .when _ _ _ _, _, ⟨p, x, y, e, q, a, b⟩ => ⟨p, _, e, q, by simp, rfl, rfl, a, b, trivial⟩
  | .whr _ _ _ _, _, ⟨p, x, y, e, q, a, b⟩ => ⟨p, _, e, q, by simp, rfl, rfl, a, b, trivial⟩
theorem cut1 {x : V} {xs : List V} : cutV (x :: xs) (some 1) none = xs := by
  unfold cutV
  rw [show HT.sIx (x :: xs).length 0 (some 1) = min 1 (x :: xs).length from HT.sIx_nat _ 0 1, HT.sIx_none, List.length_cons, show min 1 (xs.length + 1) = 1 by omega]
  show List.take (xs.length + 1 - 1) xs = xs
  rw [Nat.add_sub_cancel, List.take_length]
theorem cut1w {x : V} {xs : List V} (h : 0 < xs.length) : ¬ (HT.sIx (x :: xs).length 0 (some 1) = 0 ∧ HT.sIx (x :: xs).length (x :: xs).length none = (x :: xs).length) := by
  rw [show HT.sIx (x :: xs).length 0 (some 1) = min 1 (x :: xs).length from HT.sIx_nat _ 0 1, List.length_cons]
  omega
theorem kidsI_snoc {ts : List Itm} {i : Nat} {t : Itm} (h : ts[i]? = some t) : kidsI (ts.take (i + 1)) = kidsI (ts.take i) ++ kidsI [t] := by
  rw [List.take_add_one, h, kidsI_append]
  rfl
theorem mem_kidsI {e : Ex} : ∀ {ts : List Itm}, Itm.k e ∈ ts → e ∈ kidsI ts
  | .k e' :: r, h => by
    rcases List.mem_cons.mp h with h | h
    · cases h
      exact List.mem_cons_self
    · exact List.mem_cons_of_mem _ (mem_kidsI h)
  | .s _ :: r, h => by
    rcases List.mem_cons.mp h with h | h
    · cases h
    · exact mem_kidsI (ts := r) h
  | .i _ :: r, h => by
    rcases List.mem_cons.mp h with h | h
    · cases h
    · exact mem_kidsI (ts := r) h
theorem sort2 {ns : List Int} {a b : Int} (hp : ns.Perm [a, b]) (hs : ns.Pairwise (· ≤ ·)) : ns = [mn a b, mx a b] := by
  have hl := hp.length_eq
  match ns, hl with
  | [x, y], _ =>
    have hxy : x ≤ y := by simpa using hs
    have h1 : x = a ∨ x = b := by simpa using hp.mem_iff (a := x)
    have h2 : y = a ∨ y = b := by simpa using hp.mem_iff (a := y)
    have h3 : a = x ∨ a = y := by simpa using (hp.mem_iff (a := a)).mpr (by simp)
    have h4 : b = x ∨ b = y := by simpa using (hp.mem_iff (a := b)).mpr (by simp)
    have e1 : x = mn a b := by unfold mn; split <;> omega
    have e2 : y = mx a b := by unfold mx; split <;> omega
    rw [e1, e2]
theorem far_eq {lo hi : Int} (h : lo ≤ hi) : (if (0 - lo) > hi then (0 - lo) else hi) = mx (ab lo) (ab hi) := by
  unfold mx ab
  repeat' split
  all_goals omega
end NG

namespace NG
open PySem PySem.Spec PyProof.Rows L2
/-! ### rows of expressions as data -/
theorem lay_ex : ∀ e : Ex, (toD e).canLay0 = true
  | .fig _ => by
    show (PyData.canLay0 (.str "fig") && (true && true)) = true
    decide +kernel
  | .reg _ => by
    show (PyData.canLay0 (.str "reg") && (true && true)) = true
    decide +kernel
  | .share _ => by
    show (PyData.canLay0 (.str "share") && (true && true)) = true
    decide +kernel
  | .two w a b => by
    have ha := lay_ex a
    have hb := lay_ex b
    show (PyData.canLay0 (.str (wn w)) && (PyData.canLay0 (toD a) && (PyData.canLay0 (toD b) && true))) = true
    rw [ha, hb]
    cases w <;> decide +kernel
  | .times _ a => by
    have ha := lay_ex a
    show (PyData.canLay0 (.str "times") && (true && (PyData.canLay0 (toD a) && true))) = true
    rw [ha]
    decide +kernel
  | .by _ a => by
    have ha := lay_ex a
    show (PyData.canLay0 (.str "by") && (true && (PyData.canLay0 (toD a) && true))) = true
    rw [ha]
    decide +kernel
  | .when _ _ a b => by
    have ha := lay_ex a
    have hb := lay_ex b
    show (PyData.canLay0 (.str "when") && (true && (true && (PyData.canLay0 (toD a) && (PyData.canLay0 (toD b) && true))))) = true
    rw [ha, hb]
    decide +kernel
  | .whr _ _ a b => by
    have ha := lay_ex a
    have hb := lay_ex b
    show (PyData.canLay0 (.str "where") && (true && (true && (PyData.canLay0 (toD a) && (PyData.canLay0 (toD b) && true))))) = true
    rw [ha, hb]
    decide +kernel
theorem depth_ex : ∀ e : Ex, (toD e).depth ≤ e.dep
  | .fig _ => Nat.le_refl _
  | .reg _ => Nat.le_refl _
  | .share _ => Nat.le_refl _
  | .two w a b => by
    have ha := depth_ex a
    have hb := depth_ex b
    show max 0 (max (toD a).depth (max (toD b).depth 0)) + 1 ≤ max a.dep b.dep + 1
    omega
  | .times _ a => by
    have ha := depth_ex a
    show max 0 (max 0 (max (toD a).depth 0)) + 1 ≤ a.dep + 1
    omega
  | .by _ a => by
    have ha := depth_ex a
    show max 0 (max 0 (max (toD a).depth 0)) + 1 ≤ a.dep + 1
    omega
  | .when _ _ a b => by
    have ha := depth_ex a
    have hb := depth_ex b
    show max 0 (max 0 (max 0 (max (toD a).depth (max (toD b).depth 0)))) + 1 ≤ max a.dep b.dep + 1
    omega
  | .whr _ _ a b => by
    have ha := depth_ex a
    have hb := depth_ex b
    show max 0 (max 0 (max 0 (max (toD a).depth (max (toD b).depth 0)))) + 1 ≤ max a.dep b.dep + 1
    omega
theorem shaped_rows {es : List Ex} (h : ∀ e ∈ es, e.dep ≤ 40) : SeqAt.shaped (.list (es.map toD)) = true := by
  have h1 : PyData.canLayAll0 (es.map toD) = true := by
    clear h
    induction es with
    | nil => rfl
    | cons e r ih =>
      show ((toD e).canLay0 && PyData.canLayAll0 (r.map toD)) = true
      rw [lay_ex e, ih]
      rfl
  have h2 : PyData.depthAll (es.map toD) ≤ 40 := by
    clear h1
    induction es with
    | nil => exact Nat.zero_le _
    | cons e r ih =>
      have a := depth_ex e
      have b := h e (by simp)
      have c := ih fun x hx => h x (List.mem_cons_of_mem _ hx)
      show max (toD e).depth (PyData.depthAll (r.map toD)) ≤ 40
      omega
  show (PyData.canLayAll0 (es.map toD) && decide (PyData.depthAll (es.map toD) + 1 ≤ 64)) = true
  rw [h1, decide_eq_true (by omega)]
  rfl
theorem RowsAt.dps {K : PySem.W.Frag} {H : Hp} : ∀ {vs : List V} {es : List Ex}, RowsAt K H vs es → DpAll K H vs (es.map toD)
  | [], [], _ => .nil
  | _ :: _, _ :: _, ⟨x, r⟩ => .cons x.dp r.dps
theorem RowsAt.append {K : PySem.W.Frag} {H : Hp} : ∀ {vs ws : List V} {es fs : List Ex}, RowsAt K H vs es → RowsAt K H ws fs → RowsAt K H (vs ++ ws) (es ++ fs)
  | [], _, [], _, _, r => r
  | _ :: _, _, _ :: _, _, ⟨x, q⟩, r => ⟨x, q.append r⟩
theorem RowsAt.mem {K : PySem.W.Frag} {H : Hp} : ∀ {vs : List V} {es : List Ex} {v : V}, RowsAt K H vs es → v ∈ vs → ∃ e ∈ es, ExAt K H e v
  | v' :: vs, e :: es, v, ⟨x, r⟩, h => by
    rcases List.mem_cons.mp h with h | h
    · subst h
      exact ⟨e, by simp, x⟩
    · obtain ⟨e', h1, h2⟩ := r.mem h
      exact ⟨e', List.mem_cons_of_mem _ h1, h2⟩
/-! ### slices of lists -/
theorem cut_take {xs : List V} {j : Nat} : cutV xs none (some (j : Int)) = xs.take j := by
  unfold cutV
  rw [HT.sIx_none, HT.sIx_nat, List.drop_zero, Nat.sub_zero]
  by_cases h : j ≤ xs.length
  · rw [Nat.min_eq_left h]
  · rw [Nat.min_eq_right (by omega), List.take_length, List.take_of_length_le (by omega)]
theorem cut_drop {xs : List V} {j : Nat} : cutV xs (some (j : Int)) none = xs.drop j := by
  unfold cutV
  rw [HT.sIx_none, HT.sIx_nat]
  by_cases h : j ≤ xs.length
  · rw [Nat.min_eq_left h, List.take_of_length_le (by rw [List.length_drop]; exact Nat.le_refl _)]
  · rw [Nat.min_eq_right (by omega), Nat.sub_self, List.take_zero, List.drop_of_length_le (by omega)]
/-! ### words within -/
def spWords (K : PySem.W.Frag) (n : Nat) : Sp := fun vs H Q _ => ∃ (v : V) (x : Str) (e : Ex) (many : Nat), vs = [v, .str x] ∧ ExAt K H e v ∧ ExOk many e ∧ e.dep ≤ n ∧ e.dep ≤ 6 ∧
  ∀ H' l us es, Same H H' → H l = none → H' l = some (.lst us) → RowsAt K H' us es → es.length ≤ 3 ^ n → (∀ e' ∈ es, ExOk many e' ∧ wordOf e' = x ∧ e'.dep ≤ e.dep) → Q (.ref l) H'
def spBorder (K : PySem.W.Frag) : Sp := fun vs H Q _ => ∃ (a : Addr) (v : V) (e : Ex) (many n : Nat), vs = [.ref a, v, .int (many : Int)] ∧ ExAt K H e v ∧ ExOk many e ∧ e.dep ≤ 5 ∧ 2 ≤ many ∧ many ≤ 3 ∧ HandAt H a n ∧ n ≤ 999997000 ∧
  ∀ H' u ms, But a H H' → HandAt H' a (n + 20) → ShAt K H' many ms u → Q u H'
def spNear (K : PySem.W.Frag) : Sp := fun vs H Q _ => ∃ (a : Addr) (v : V) (e : Ex) (many n : Nat), vs = [.ref a, v] ∧ ExAt K H e v ∧ ExOk many e ∧ e.dep ≤ 5 ∧ HandAt H a n ∧ n ≤ 999997000 ∧
  ∀ H' u rs, But a H H' → HandAt H' a (n + 15) → RegsAt K H' rs u → Q u H'
theorem is_whr {e : Ex} (h : wordOf e = "where") : ∃ j c a b, e = .whr j c a b := by
  cases e with
  | whr j c a b => exact ⟨j, c, a, b, rfl⟩
  | two w a b => cases w <;> exact absurd h (of_decide_eq_false rfl)
  | fig _ => exact absurd h (of_decide_eq_false rfl)
  | reg _ => exact absurd h (of_decide_eq_false rfl)
  | share _ => exact absurd h (of_decide_eq_false rfl)
  | times _ _ => exact absurd h (of_decide_eq_false rfl)
  | «by» _ _ => exact absurd h (of_decide_eq_false rfl)
  | when _ _ _ _ => exact absurd h (of_decide_eq_false rfl)
theorem is_when {e : Ex} (h : wordOf e = "when") : ∃ j c a b, e = .when j c a b := by
  cases e with
  | when j c a b => exact ⟨j, c, a, b, rfl⟩
  | two w a b => cases w <;> exact absurd h (of_decide_eq_false rfl)
  | fig _ => exact absurd h (of_decide_eq_false rfl)
  | reg _ => exact absurd h (of_decide_eq_false rfl)
  | share _ => exact absurd h (of_decide_eq_false rfl)
  | times _ _ => exact absurd h (of_decide_eq_false rfl)
  | «by» _ _ => exact absurd h (of_decide_eq_false rfl)
  | whr _ _ _ _ => exact absurd h (of_decide_eq_false rfl)
end NG

namespace NG
open PySem PySem.Spec PyProof.Rows L2
/-! ### tuples put together and cut, whatever they hold -/
theorem catA {K : PySem.W.Frag} {H : Hp} {a b : Addr} {xs ys : List V} {Q : VK} (ha : SqT K H a xs) (hb : SqT K H b ys) (hl : xs.length + ys.length ≤ sizeLine) (q : ∀ H' p, Same H H' → SqT K H' p (xs ++ ys) → Q (.ref p) H') : rCatA K (.ref a) (.ref b) H Q := by
  refine ⟨a, b, xs, ys, rfl, rfl, ha, hb, hl, fun h => ?_, fun _ h => ?_, fun _ _ p np => ?_⟩
  · subst h
    exact q H b (Same.refl _) hb
  · subst h
    exact q H a (Same.refl _) (by rw [List.append_nil]; exact ha)
  · exact q _ p (same_new np) (SqT.of upd_same)
theorem cutV_whole {xs : List V} {lo hi : Option Int} (h : HT.sIx xs.length 0 lo = 0 ∧ HT.sIx xs.length xs.length hi = xs.length) : cutV xs lo hi = xs := by
  unfold cutV
  rw [h.1, h.2, List.drop_zero, Nat.sub_zero, List.take_length]
theorem slA {K : PySem.W.Frag} {H : Hp} {a : Addr} {xs : List V} {lo hi : Option Int} {Q : VK} (ha : SqT K H a xs) (q : ∀ H' p, Same H H' → SqT K H' p (cutV xs lo hi) → Q (.ref p) H') : rSlA K (.ref a) lo hi H Q := by
  refine ⟨a, xs, rfl, ha, fun h => ?_, fun _ p np => ?_⟩
  · exact q H a (Same.refl _) (by rw [cutV_whole h]; exact ha)
  · exact q _ p (same_new np) (SqT.of upd_same)
theorem HandAt.same {H H' : Hp} {a : Addr} {n : Nat} (h : HandAt H a n) (s : Same H H') : HandAt H' a n := by
  obtain ⟨g, sd, m, e, z⟩ := h
  exact ⟨g, sd, m, s _ _ e, z⟩

/-! ### deeds -/
inductive D5 where
  | put | add | copy | plus | told
  deriving DecidableEq
def dn : D5 → Str
  | .put => "put"
  | .add => "add"
  | .copy => "copy"
  | .plus => "plus"
  | .told => "told"
inductive Ds where
  | nil
  | op (w : D5) (i : Nat) (x : Int) (r : Ds)
  | when (i : Nat) (c : Int) (a b r : Ds)
def DsAt (K : PySem.W.Frag) (H : Hp) : Ds → List V → Prop
  | .nil, vs => vs = []
  | .op w i x r, vs => ∃ p us, vs = .ref p :: us ∧ SqT K H p [.str (dn w), .int (i : Int), .int x] ∧ DsAt K H r us
  | .when i c a b r, vs => ∃ p pa pb xa xb us, vs = .ref p :: us ∧ SqT K H p [.str "when", .int (i : Int), .int c, .ref pa, .ref pb] ∧ SqT K H pa xa ∧ DsAt K H a xa ∧ SqT K H pb xb ∧ DsAt K H b xb ∧ DsAt K H r us
theorem DsAt.imp {K : PySem.W.Frag} {H H' : Hp} (h : ∀ p xs, SqT K H p xs → SqT K H' p xs) : ∀ {d : Ds} {vs : List V}, DsAt K H d vs → DsAt K H' d vs
  | .nil, _, e => e
  | .op _ _ _ _, _, ⟨p, us, e, q, r⟩ => ⟨p, us, e, h _ _ q, DsAt.imp h r⟩
  | .when _ _ _ _ _, _, ⟨p, pa, pb, xa, xb, us, e, q, qa, a, qb, b, r⟩ => ⟨p, pa, pb, xa, xb, us, e, h _ _ q, h _ _ qa, DsAt.imp h a, h _ _ qb, DsAt.imp h b, DsAt.imp h r⟩
theorem DsAt.same {K : PySem.W.Frag} {H H' : Hp} {d : Ds} {vs : List V} (x : DsAt K H d vs) (s : Same H H') : DsAt K H' d vs := x.imp fun _ _ q => same_sqt s q
def Ds.app : Ds → Ds → Ds
  | .nil, e => e
  | .op w i x r, e => .op w i x (r.app e)
  | .when i c a b r, e => .when i c a b (r.app e)
theorem DsAt.app {K : PySem.W.Frag} {H : Hp} : ∀ {d e : Ds} {vs ws : List V}, DsAt K H d vs → DsAt K H e ws → DsAt K H (d.app e) (vs ++ ws)
  | .nil, _, _, _, e, y => by
    subst e
    exact y
  | .op _ _ _ _, _, _, _, ⟨p, us, e, q, r⟩, y => by
    subst e
    exact ⟨p, _, rfl, q, DsAt.app r y⟩
  | .when _ _ _ _ _, _, _, _, ⟨p, pa, pb, xa, xb, us, e, q, qa, a, qb, b, r⟩, y => by
    subst e
    exact ⟨p, pa, pb, xa, xb, _, rfl, q, qa, a, qb, b, DsAt.app r y⟩
def Ds.cnt : Ds → Nat
  | .nil => 0
  | .op _ _ _ r => 1 + r.cnt
  | .when _ _ a b r => 1 + (a.cnt + b.cnt) + r.cnt
def Ds.len : Ds → Nat
  | .nil => 0
  | .op _ _ _ r => r.len + 1
  | .when _ _ _ _ r => r.len + 1
def Ds.dep : Ds → Nat
  | .nil => 0
  | .op _ _ _ r => max 1 r.dep
  | .when _ _ a b r => max (max a.dep b.dep + 1) r.dep
theorem Ds.len_le : ∀ d : Ds, d.len ≤ d.cnt
  | .nil => Nat.le_refl _
  | .op _ _ _ r => by have := r.len_le; show r.len + 1 ≤ 1 + r.cnt; omega
  | .when _ _ a b r => by have := r.len_le; show r.len + 1 ≤ 1 + (a.cnt + b.cnt) + r.cnt; omega
theorem DsAt.len {K : PySem.W.Frag} {H : Hp} : ∀ {d : Ds} {vs : List V}, DsAt K H d vs → vs.length = d.len
  | .nil, _, e => by subst e; rfl
  | .op _ _ _ _, _, ⟨p, us, e, q, r⟩ => by subst e; rw [List.length_cons, r.len]; rfl
  | .when _ _ _ _ _, _, ⟨p, pa, pb, xa, xb, us, e, q, qa, a, qb, b, r⟩ => by subst e; rw [List.length_cons, r.len]; rfl
theorem Ds.cnt_app : ∀ d e : Ds, (d.app e).cnt = d.cnt + e.cnt
  | .nil, e => by show e.cnt = 0 + e.cnt; omega
  | .op _ _ _ r, e => by show 1 + (r.app e).cnt = 1 + r.cnt + e.cnt; rw [Ds.cnt_app r e]; omega
  | .when _ _ a b r, e => by show 1 + (a.cnt + b.cnt) + (r.app e).cnt = 1 + (a.cnt + b.cnt) + r.cnt + e.cnt; rw [Ds.cnt_app r e]; omega
theorem Ds.dep_app : ∀ d e : Ds, (d.app e).dep = max d.dep e.dep
  | .nil, e => by show e.dep = max 0 e.dep; omega
  | .op _ _ _ r, e => by show max 1 (r.app e).dep = max (max 1 r.dep) e.dep; rw [Ds.dep_app r e]; omega
  | .when _ _ a b r, e => by show max (max a.dep b.dep + 1) (r.app e).dep = max (max (max a.dep b.dep + 1) r.dep) e.dep; rw [Ds.dep_app r e]; omega
def xok (many : Nat) : D5 → Int → Prop
  | .put, x => -1000 ≤ x ∧ x ≤ 1000
  | .add, x => -1000 ≤ x ∧ x ≤ 1000
  | .copy, x => 0 ≤ x ∧ x < 4
  | .plus, x => 0 ≤ x ∧ x < 4
  | .told, x => 0 ≤ x ∧ x < many
theorem xok_small {many : Nat} (hm : many ≤ 1000) : ∀ {w : D5} {x : Int}, xok many w x → -1000 ≤ x ∧ x ≤ 1000
  | .put, _, h => h
  | .add, _, h => h
  | .copy, _, h => by have := h.1; have := h.2; constructor <;> omega
  | .plus, _, h => by have := h.1; have := h.2; constructor <;> omega
  | .told, _, h => by have := h.1; have := h.2; constructor <;> omega
def DsOk (many : Nat) : Ds → Prop
  | .nil => True
  | .op w i x r => i < 4 ∧ xok many w x ∧ DsOk many r
  | .when i c a b r => i < 4 ∧ (-1000 ≤ c ∧ c ≤ 1000) ∧ DsOk many a ∧ DsOk many b ∧ DsOk many r
theorem DsOk.app {many : Nat} : ∀ {d e : Ds}, DsOk many d → DsOk many e → DsOk many (d.app e)
  | .nil, _, _, y => y
  | .op _ _ _ _, _, ⟨h1, h2, h3⟩, y => ⟨h1, h2, DsOk.app h3 y⟩
  | .when _ _ _ _ _, _, ⟨h1, h2, h3, h4, h5⟩, y => ⟨h1, h2, h3, h4, DsOk.app h5 y⟩
def cl (n : Int) : Int := mx (-1000) (mn 1000 n)
theorem cl_in (n : Int) : -1000 ≤ cl n ∧ cl n ≤ 1000 := by
  unfold cl mx mn
  repeat' split
  all_goals omega
def hb (ss : List Int) : D5 → Nat → Int → List Int → Int
  | .put, _, x, _ => x
  | .add, i, x, rs => rs.getD i 0 + x
  | .copy, _, x, rs => rs.getD x.toNat 0
  | .plus, i, x, rs => rs.getD i 0 + rs.getD x.toNat 0
  | .told, _, x, _ => 1000 * ss.getD x.toNat 0 / ss.sum
def ap (ss : List Int) : Ds → List Int → List Int
  | .nil, rs => rs
  | .op w i x r, rs => ap ss r (rs.set i (cl (hb ss w i x rs)))
  | .when i c a b r, rs => ap ss r (if rs.getD i 0 < c then ap ss a rs else ap ss b rs)
def RegOk (rs : List Int) : Prop := rs.length = 4 ∧ ∀ x ∈ rs, -1000 ≤ x ∧ x ≤ 1000
theorem RegOk.set {rs : List Int} (h : RegOk rs) (i : Nat) (n : Int) : RegOk (rs.set i (cl n)) := by
  refine ⟨by rw [List.length_set]; exact h.1, fun x hx => ?_⟩
  rcases List.mem_or_eq_of_mem_set hx with hx | rfl
  · exact h.2 x hx
  · exact cl_in n
theorem RegOk.ap {ss : List Int} : ∀ {d : Ds} {rs : List Int}, RegOk rs → RegOk (ap ss d rs)
  | .nil, _, h => h
  | .op w i x r, rs, h => RegOk.ap (d := r) (h.set i _)
  | .when i c a b r, rs, h => by
    show RegOk (NG.ap ss r (if rs.getD i 0 < c then NG.ap ss a rs else NG.ap ss b rs))
    refine RegOk.ap (d := r) ?_
    split
    · exact RegOk.ap (d := a) h
    · exact RegOk.ap (d := b) h
theorem RegsAt.ok {K : PySem.W.Frag} {H : Hp} {rs : List Int} {v : V} (h : RegsAt K H rs v) : RegOk rs := by
  obtain ⟨p, _, _, l, b⟩ := h
  exact ⟨l, b⟩
theorem RegsAt.same {K : PySem.W.Frag} {H H' : Hp} {rs : List Int} {v : V} (h : RegsAt K H rs v) (s : Same H H') : RegsAt K H' rs v := h.imp fun _ _ q => same_sqt s q
theorem ShAt.same {K : PySem.W.Frag} {H H' : Hp} {many : Nat} {rs : List Int} {v : V} (h : ShAt K H many rs v) (s : Same H H') : ShAt K H' many rs v := h.imp fun _ _ q => same_sqt s q
/-! ### rows of deeds, doubters -/
def BhAt (K : PySem.W.Frag) (H : Hp) : List V → List Ds → Prop
  | [], [] => True
  | v :: vs, d :: ds => (∃ p xs, v = .ref p ∧ SqT K H p xs ∧ DsAt K H d xs) ∧ BhAt K H vs ds
  | _, _ => False
theorem BhAt.imp {K : PySem.W.Frag} {H H' : Hp} (h : ∀ p xs, SqT K H p xs → SqT K H' p xs) : ∀ {vs : List V} {es : List Ds}, BhAt K H vs es → BhAt K H' vs es
  | [], [], _ => trivial
  | _ :: _, _ :: _, ⟨⟨p, xs, e, q, x⟩, r⟩ => ⟨⟨p, xs, e, h _ _ q, x.imp h⟩, BhAt.imp h r⟩
theorem BhAt.same {K : PySem.W.Frag} {H H' : Hp} {vs : List V} {es : List Ds} (r : BhAt K H vs es) (s : Same H H') : BhAt K H' vs es := r.imp fun _ _ q => same_sqt s q
theorem BhAt.len {K : PySem.W.Frag} {H : Hp} : ∀ {vs : List V} {es : List Ds}, BhAt K H vs es → vs.length = es.length
  | [], [], _ => rfl
  | _ :: _, _ :: _, ⟨_, r⟩ => by rw [List.length_cons, List.length_cons, r.len]
theorem BhAt.snoc {K : PySem.W.Frag} {H : Hp} {p : Addr} {xs : List V} {d : Ds} (q : SqT K H p xs) (x : DsAt K H d xs) : ∀ {vs : List V} {es : List Ds}, BhAt K H vs es → BhAt K H (vs ++ [.ref p]) (es ++ [d])
  | [], [], _ => ⟨⟨p, xs, rfl, q, x⟩, trivial⟩
  | _ :: _, _ :: _, ⟨y, r⟩ => ⟨y, BhAt.snoc q x r⟩
theorem BhAt.get {K : PySem.W.Frag} {H : Hp} : ∀ {vs : List V} {es : List Ds} {k : Nat} {d : Ds}, BhAt K H vs es → es[k]? = some d → ∃ p xs, vs[k]? = some (.ref p) ∧ SqT K H p xs ∧ DsAt K H d xs
  | [], [], _, _, _, h => by simp at h
  | v :: vs, e' :: es, 0, e, ⟨⟨p, xs, e1, q, x⟩, r⟩, h => by
    have : e' = e := Option.some.inj h
    subst this
    exact ⟨p, xs, by rw [e1]; rfl, q, x⟩
  | v :: vs, e' :: es, k + 1, e, ⟨x, r⟩, h => BhAt.get (k := k) r h
structure Dbt where
  name : Str
  scale : Nat
  begins : List Int
  stakes : List Ex
  behinds : List Ds
def DbAt (K : PySem.W.Frag) (H : Hp) (D : Dbt) (v : V) : Prop := ∃ (p : Addr) (vb : V) (ps pb : Addr) (us ws : List V), v = .ref p ∧ SqT K H p [.str D.name, .int (D.scale : Int), vb, .ref ps, .ref pb] ∧ RegsAt K H D.begins vb ∧ SqT K H ps us ∧ RowsAt K H us D.stakes ∧ SqT K H pb ws ∧ BhAt K H ws D.behinds
theorem DbAt.imp {K : PySem.W.Frag} {H H' : Hp} {D : Dbt} {v : V} (x : DbAt K H D v) (h : ∀ p xs, SqT K H p xs → SqT K H' p xs) : DbAt K H' D v := by
  obtain ⟨p, vb, ps, pb, us, ws, e, q, r, q1, r1, q2, r2⟩ := x
  exact ⟨p, vb, ps, pb, us, ws, e, h _ _ q, r.imp h, h _ _ q1, r1.imp h, h _ _ q2, r2.imp h⟩
theorem DbAt.same {K : PySem.W.Frag} {H H' : Hp} {D : Dbt} {v : V} (x : DbAt K H D v) (s : Same H H') : DbAt K H' D v := x.imp fun _ _ q => same_sqt s q
/-- names, scale, registers, stakes of a depth, deeds of a depth and a number -/
structure DbOk (many dE dD cD : Nat) (D : Dbt) : Prop where
  nm : D.name = "a" ∨ D.name = "doubter" ∨ D.name = "sceptics" ∨ D.name = "zz"
  sc : D.scale < 5
  rg : RegOk D.begins
  sl : D.stakes.length = many
  st : ∀ e ∈ D.stakes, ExOk many e ∧ e.dep ≤ dE
  bl : D.behinds.length = many
  bh : ∀ d ∈ D.behinds, DsOk many d ∧ d.dep ≤ dD ∧ d.cnt ≤ cD
/-! ### as data -/
def dsD : Ds → List PyData
  | .nil => []
  | .op w i x r => .tuple [.str (dn w), .int (i : Int), .int x] :: dsD r
  | .when i c a b r => .tuple [.str "when", .int (i : Int), .int c, .tuple (dsD a), .tuple (dsD b)] :: dsD r
theorem DsAt.dps {K : PySem.W.Frag} {H : Hp} : ∀ {d : Ds} {vs : List V}, DsAt K H d vs → DpAll K H vs (dsD d)
  | .nil, _, e => by subst e; exact .nil
  | .op _ _ _ _, _, ⟨p, us, e, q, r⟩ => by subst e; exact .cons (.tup q (.cons (.str _) (.cons (.int _) (.cons (.int _) .nil)))) r.dps
  | .when _ _ _ _ _, _, ⟨p, pa, pb, xa, xb, us, e, q, qa, a, qb, b, r⟩ => by subst e; exact .cons (.tup q (.cons (.str _) (.cons (.int _) (.cons (.int _) (.cons (.tup qa a.dps) (.cons (.tup qb b.dps) .nil)))))) r.dps
theorem BhAt.dps {K : PySem.W.Frag} {H : Hp} : ∀ {vs : List V} {es : List Ds}, BhAt K H vs es → DpAll K H vs (es.map fun d => .tuple (dsD d))
  | [], [], _ => .nil
  | _ :: _, _ :: _, ⟨⟨p, xs, e, q, x⟩, r⟩ => by subst e; exact .cons (.tup q x.dps) r.dps
def dbD (D : Dbt) : PyData := .tuple [.str D.name, .int (D.scale : Int), .tuple (D.begins.map PyData.int), .tuple (D.stakes.map toD), .tuple (D.behinds.map fun d => .tuple (dsD d))]
theorem dp_ints {K : PySem.W.Frag} {H : Hp} : ∀ ns : List Int, DpAll K H (ns.map V.int) (ns.map PyData.int)
  | [] => .nil
  | n :: r => .cons (.int n) (dp_ints r)
theorem DbAt.dp {K : PySem.W.Frag} {H : Hp} {D : Dbt} {v : V} (x : DbAt K H D v) : Dp K H v (dbD D) := by
  obtain ⟨p, vb, ps, pb, us, ws, e, q, ⟨pr, e2, r, _⟩, q1, r1, q2, r2⟩ := x
  subst e e2
  exact .tup q (.cons (.str _) (.cons (.int _) (.cons (.tup r (dp_ints _)) (.cons (.tup q1 r1.dps) (.cons (.tup q2 r2.dps) .nil)))))
theorem shw_smalls : ∀ {ns : List Int}, (∀ x ∈ ns, -1000 ≤ x ∧ x ≤ 1000) → ShwAll (ns.map PyData.int) (16 * ns.length) 0
  | [], _ => ShwAll.nil
  | n :: r, h => by
    have h0 := h n (by simp)
    have h1 := Shw.small (i := n) (by omega)
    have h2 := shw_smalls (ns := r) fun x hx => h x (List.mem_cons_of_mem _ hx)
    have h3 := ShwAll.cons h1 h2 (Nat.le_refl 0) (Nat.le_refl 0)
    refine ⟨h3.sh, h3.lf, Nat.le_trans h3.wt ?_, h3.dp⟩
    rw [List.length_cons]
    omega
theorem shw_ds {many : Nat} (hm : many ≤ 1000) : ∀ {d : Ds}, DsOk many d → ShwAll (dsD d) (60 * d.cnt) (2 * d.dep)
  | .nil, _ => ShwAll.nil
  | .op w i x r, ⟨o1, o2, o3⟩ => by
    have hr := shw_ds hm (d := r) o3
    have hx := xok_small hm o2
    have hw : Shw (.str (dn w)) 10 0 := by cases w <;> exact .str (by decide) (by decide)
    have h1 := ShwAll.tup (.cons hw (.cons (.small (i := (i : Int)) (by omega)) (.cons (.small (i := x) (by omega)) .nil (Nat.le_refl 0) (Nat.le_refl 0)) (Nat.le_refl 0) (Nat.le_refl 0)) (Nat.le_refl 0) (Nat.le_refl 0))
    have h2 := ShwAll.cons h1 hr (k := 2 * max 1 r.dep) (by omega) (by omega)
    refine ⟨h2.sh, h2.lf, Nat.le_trans h2.wt ?_, h2.dp⟩
    show 10 + 1 + (15 + 1 + (15 + 1 + 0)) + 1 + 60 * r.cnt ≤ 60 * (1 + r.cnt)
    omega
  | .when i c a b r, ⟨o1, o2, o3, o4, o5⟩ => by
    have ha := (shw_ds hm (d := a) o3).tup
    have hb := (shw_ds hm (d := b) o4).tup
    have hr := shw_ds hm (d := r) o5
    have h1 := ShwAll.tup (.cons (.str (x := "when") (by decide) (by decide)) (.cons (.small (i := (i : Int)) (by omega)) (.cons (.small (i := c) (by omega)) (.cons ha (.cons hb .nil (k := 2 * max a.dep b.dep + 1) (by omega) (Nat.zero_le _)) (by omega) (Nat.le_refl _)) (Nat.zero_le _) (Nat.le_refl _)) (Nat.zero_le _) (Nat.le_refl _)) (Nat.zero_le _) (Nat.le_refl _))
    have h2 := ShwAll.cons h1 hr (k := 2 * max (max a.dep b.dep + 1) r.dep) (by omega) (by omega)
    refine ⟨h2.sh, h2.lf, Nat.le_trans h2.wt ?_, h2.dp⟩
    show 10 + 1 + (15 + 1 + (15 + 1 + (60 * a.cnt + 1 + (60 * b.cnt + 1 + 0)))) + 1 + 60 * r.cnt ≤ 60 * (1 + (a.cnt + b.cnt) + r.cnt)
    omega
theorem shw_list {α : Type} {f : α → PyData} {w k : Nat} : ∀ {xs : List α}, (∀ x ∈ xs, Shw (f x) w k) → ShwAll (xs.map f) ((w + 1) * xs.length) k
  | [], _ => ShwAll.nil
  | n :: r, h => by
    have h1 := h n (by simp)
    have h2 := shw_list (xs := r) fun x hx => h x (List.mem_cons_of_mem _ hx)
    have h3 := ShwAll.cons h1 h2 (Nat.le_refl k) (Nat.le_refl k)
    refine ⟨h3.sh, h3.lf, Nat.le_trans h3.wt ?_, h3.dp⟩
    rw [List.length_cons, Nat.mul_add]
    omega
/-- a doubter's weight -/
theorem shw_db {many dE dD cD : Nat} {D : Dbt} (hm : many ≤ 3) (hE : dE ≤ 8) (hD : dD ≤ 8) (o : DbOk many dE dD cD D) : Shw (dbD D) (120 + 3 * wgt dE + 180 * cD) 20 := by
  have h0 : Shw (.str D.name) 10 0 := by rcases o.nm with e | e | e | e <;> rw [e] <;> exact .str (by decide) (by decide)
  have h1 : Shw (.int (D.scale : Int)) 15 0 := .small (by have := o.sc; omega)
  have h2 := (shw_smalls o.rg.2).tup
  have h3 := (shw_list (f := toD) (w := wgt dE) (k := dE) fun e he => (shw_ex (many := many) (by omega) (o.st e he).1).mono (wgt_mono (o.st e he).2) (o.st e he).2).tup
  have h4 := (shw_list (f := fun d => PyData.tuple (dsD d)) (w := 60 * cD) (k := 2 * dD + 1) fun d hd => ((shw_ds (many := many) (by omega) (o.bh d hd).1).tup).mono (Nat.mul_le_mul_left _ (o.bh d hd).2.2) (by have := (o.bh d hd).2.1; omega)).tup
  have h5 := ShwAll.tup (.cons h0 (.cons h1 (.cons h2 (.cons h3 (.cons h4 (ShwAll.nil (k := 0)) (k := 18) (by omega) (by omega)) (by omega) (Nat.le_refl 18)) (by omega) (Nat.le_refl 18)) (by omega) (Nat.le_refl 18)) (by omega) (Nat.le_refl 18))
  refine h5.mono ?_ (by decide)
  rw [o.sl, o.bl, o.rg.1]
  have a1 : (wgt dE + 1) * many ≤ (wgt dE + 1) * 3 := Nat.mul_le_mul_left _ hm
  have a2 : (60 * cD + 1) * many ≤ (60 * cD + 1) * 3 := Nat.mul_le_mul_left _ hm
  omega
/-! ### promises -/
def spExprJ (K : PySem.W.Frag) (m : Nat) : Sp := fun vs H Q _ => ∃ (a : Addr) (many l n j : Nat), vs = [.ref a, .int (many : Int), .int (l : Int), .int (j : Int)] ∧ j ≤ 1 ∧ l < m ∧ 1 ≤ many ∧ many ≤ 1000 ∧ HandAt H a n ∧ n + cost l ≤ 999999000 ∧
  ∀ H' v e, But a H H' → HandAt H' a (n + cost l) → ExAt K H' e v → ExOk many e → e.dep ≤ l + 1 → Q v H'
/-- a stake: cut to its far -/
def spStake (K : PySem.W.Frag) (m : Nat) : Sp := fun vs H Q _ => ∃ (a : Addr) (many l n j : Nat), vs = [.ref a, .int (many : Int), .int (l : Int), .int (j : Int)] ∧ j ≤ 1 ∧ l < m ∧ 1 ≤ many ∧ many ≤ 1000 ∧ HandAt H a n ∧ n + cost l ≤ 999998000 ∧
  ∀ H' v e, But a H H' → HandAt H' a (n + cost l + 3) → ExAt K H' e v → ExOk many e → e.dep ≤ l + 3 → (∃ c : Int, e = .fig c ∧ -500 ≤ c ∧ c ≤ 500) ∨ (∃ (c : Int) (e' : Ex), e = .two .least (.fig c) (.two .most (.fig (-c)) e') ∧ 1 ≤ c ∧ c ≤ 500 ∧ ExOk many e' ∧ e'.dep ≤ l + 1) → Q v H'
def dB : Nat → Nat
  | 0 => 20
  | n + 1 => 2 * dB n + 30
def dC : Nat → Nat
  | 0 => 3
  | n + 1 => 2 * dC n + 4
theorem dC_ge (n : Nat) : 3 ≤ dC n := by
  cases n with
  | zero => exact Nat.le_refl _
  | succ n => show 3 ≤ 2 * dC n + 4; omega
theorem dB_ge (n : Nat) : 20 ≤ dB n := by
  cases n with
  | zero => exact Nat.le_refl _
  | succ n => show 20 ≤ 2 * dB n + 30; omega
def spDeeds (K : PySem.W.Frag) (m : Nat) : Sp := fun vs H Q _ => ∃ (a : Addr) (many l n : Nat), vs = [.ref a, .int (many : Int), .int (l : Int)] ∧ l < m ∧ l ≤ 3 ∧ 1 ≤ many ∧ many ≤ 1000 ∧ HandAt H a n ∧ n + dB l ≤ 999998000 ∧
  ∀ H' p xs d, But a H H' → HandAt H' a (n + dB l) → SqT K H' p xs → DsAt K H' d xs → DsOk many d → d.dep ≤ l + 1 → d.cnt ≤ dC l → Q (.ref p) H'
def StOk (many l : Nat) (e : Ex) : Prop := (∃ c : Int, e = .fig c ∧ -500 ≤ c ∧ c ≤ 500) ∨ (∃ (c : Int) (e' : Ex), e = .two .least (.fig c) (.two .most (.fig (-c)) e') ∧ 1 ≤ c ∧ c ≤ 500 ∧ ExOk many e' ∧ e'.dep ≤ l + 1)
def spDoubter (K : PySem.W.Frag) (m : Nat) : Sp := fun vs H Q _ => ∃ (a : Addr) (many l n j : Nat), vs = [.ref a, .int (many : Int), .int (l : Int), .int (j : Int)] ∧ j ≤ 1 ∧ l < m ∧ l ≤ 5 ∧ 1 ≤ many ∧ many ≤ 3 ∧ HandAt H a n ∧ n ≤ 999990000 ∧
  ∀ H' v D, But a H H' → HandAt H' a (n + 3 * cost l + 300) → DbAt K H' D v → DbOk many (l + 3) 2 10 D → (∀ e ∈ D.stakes, StOk many l e) → Q v H'
end NG

namespace NG
open PySem PySem.Spec PyProof.Rows L2
/-! ### zip of a list with a tuple -/
def ItLT (K : PySem.W.Frag) (a b : Addr) : It :=
  ⟨fun i H => ∃ (us ws : List V) (u v : V), SqL K H a us ∧ SqT K H b ws ∧ us[i]? = some u ∧ ws[i]? = some v,
   fun i H r H' => ∃ (T : Addr) (u v : V), r = .ref T ∧ H T = none ∧ H' = upd H T (.tup [u, v]) ∧ (∀ us, SqL K H a us → us[i]? = some u) ∧ ∀ ws, SqT K H b ws → ws[i]? = some v,
   fun i H => ∃ us ws : List V, SqL K H a us ∧ SqT K H b ws ∧ us.length = i ∧ ws.length = i⟩
theorem turn_LT {P : Program} {w : World} {K : PySem.W.Frag} {es : List Expr} {k : Nat} {ps : Pos} {a b z TI TO i1 i2 : Addr} (S : ZipSep2 z TI TO i1 i2 [i1, a] [i2, b]) (na : a ≠ i1) (nb : b ≠ i2) :
    Turn P w K (.Tuple es k ps) (ItLT K a b) [z, TI, TO, i1, i2] z (fun i h => IsZip h z TI TO .none ∧ IsTupOf2 h TI (.ref i1) (.ref i2) ∧ (∃ c d, IsTupOf2 h TO c d) ∧ h.IsListIter i1 a i ∧ h.IsTupleIter i2 b i) := by
  have five : ∀ {c : Addr}, c ∈ [z, TI, TO, i1, i2] → c = z ∨ c = TI ∨ c = TO ∨ c = i1 ∨ c = i2 := fun h => by simpa using h
  have lives : ∀ (i : Nat) (h : Heap), (IsZip h z TI TO .none ∧ IsTupOf2 h TI (.ref i1) (.ref i2) ∧ (∃ c d, IsTupOf2 h TO c d) ∧ h.IsListIter i1 a i ∧ h.IsTupleIter i2 b i) → ∀ c ∈ [z, TI, TO, i1, i2], ∃ o, h.get? c = some o ∧ ∀ v, o.data ≠ .cell v := fun i h st c hc => by
    obtain ⟨s1, s2, ⟨x, y, s3⟩, ⟨o4, s4, _, d4⟩, ⟨o5, s5, _, d5⟩⟩ := st
    rcases five hc with rfl | rfl | rfl | rfl | rfl
    · exact ⟨_, s1, fun v q => nomatch q⟩
    · exact ⟨_, s2, fun v q => nomatch q⟩
    · exact ⟨_, s3, fun v q => nomatch q⟩
    · exact ⟨o4, s4, fun v q => by rw [d4] at q; exact nomatch q⟩
    · exact ⟨o5, s5, fun v q => by rw [d5] at q; exact nomatch q⟩
  refine ⟨List.mem_cons_self, lives, fun i h h' st kp => ?_, fun X eP ew eK hc i pins s σ H E I hf st hg => ?_, fun X eP ew eK hc i pins s σ H E I hf st hg => ?_, fun A i s Q E st q => wpAny_pyIter_zip st.1 q⟩
  · obtain ⟨s1, s2, ⟨x, y, s3⟩, s4, s5⟩ := st
    exact ⟨kp _ (by simp) _ s1, kp _ (by simp) _ s2, ⟨x, y, kp _ (by simp) _ s3⟩, s4.at fun o q => kp _ (by simp) o q, s5.at fun o q => kp _ (by simp) o q⟩
  · cases eP
    cases ew
    cases eK
    have lv := lives i _ st
    obtain ⟨s1, s2, s3, s4, s5⟩ := st
    obtain ⟨us, ws, u, v, qa, qb, hu, hv⟩ := hg
    obtain ⟨la, ra, pa, _⟩ := I.list qa
    obtain ⟨lb, rb, pb, _⟩ := I.tuple qb
    obtain ⟨u', eu, ru⟩ := ra.get hu
    obtain ⟨v', ev', rv⟩ := rb.get hv
    have W := WalksT.zipD2 (A := X.A) S (Draws.list (prog := X.prog) (w := X.w) (A := X.A.in1) (I.ok.hd hc) i1 a na la.toArray) (Draws.tuple (A := X.A.in1) (I.ok.hd hc) i2 b nb lb.toArray)
    have il : i < la.length := (List.getElem?_eq_some_iff.mp eu).1
    have ir : i < lb.length := (List.getElem?_eq_some_iff.mp ev').1
    refine W.item i s _ E (by rw [List.size_toArray, List.size_toArray]; omega) ⟨s1, s2, s3, ⟨s4, pa.isList⟩, ⟨s5, pb⟩⟩ fun T vals h1 tk pv hT tT mid k1 => ⟨_, rfl, ?_⟩
    have apT := W.apart i T h1 mid
    refine W.go es k ps i T _ _ _ mid fun h2 st2 k2 => ?_
    obtain ⟨x1, x2, e1, e2, rfl⟩ := pv
    have f1 : x1 = u' := by
      have := e1.symm.trans (show la.toArray[i]? = some u' by simpa using eu)
      exact Option.some.inj this
    have f2 : x2 = v' := by
      have := e2.symm.trans (show lb.toArray[i]? = some v' by simpa using ev')
      exact Option.some.inj this
    subst f1 f2
    obtain ⟨z1, z2, z3, ⟨z4, _⟩, ⟨z5, _⟩⟩ := st2
    have tT2 : h2.IsTuple T #[x1, x2] := tT.at fun o e => k2 T o apT e
    have in5 : ∀ c, c ∉ [z, TI, TO, i1, i2] → c ∉ [z, TO, i1, i2] := fun c h m => h (by
      rcases (by simpa using m : c = z ∨ c = TO ∨ c = i1 ∨ c = i2) with rfl | rfl | rfl | rfl <;> simp)
    have J := I.turnedNew (h' := h2) (t' := tk) (ch := [z, TI, TO, i1, i2]) (T := T) (ob := .tup [u, v]) (fun c o hb' q => k2 c o (in5 c hb') (k1 c o (in5 c hb') q)) hf hT ⟨(by show 2 ≤ sizeLine; decide), [x1, x2], .cons ru (.cons rv .nil), tT2⟩
    refine ⟨.ref T, _, J, rfl, ⟨T, u, v, rfl, I.hok.fresh hT, rfl, fun l hl => ?_, fun l hl => ?_⟩, ⟨z1, z2, z3, z4, z5⟩, fun c hcm => ?_⟩
    · rw [I.list_inj hl qa]
      exact hu
    · rw [I.tuple_inj hl qb]
      exact hv
    · obtain ⟨o, ho, _⟩ := lv c hcm
      have lt := Heap.lt_size ho
      rw [upd_ne (Nat.ne_of_lt (Nat.lt_of_lt_of_le lt hT))]
      exact (hf c hcm).1
  · cases eP
    cases ew
    cases eK
    obtain ⟨s1, s2, s3, s4, s5⟩ := st
    obtain ⟨us, ws, qa, qb, e1, e2⟩ := hg
    obtain ⟨la, ra, pa, _⟩ := I.list qa
    obtain ⟨lb, rb, pb, _⟩ := I.tuple qb
    have W := WalksT.zipD2 (A := X.A) S (Draws.list (prog := X.prog) (w := X.w) (A := X.A.in1) (I.ok.hd hc) i1 a na la.toArray) (Draws.tuple (A := X.A.in1) (I.ok.hd hc) i2 b nb lb.toArray)
    have l1 := ra.length
    have l2 := rb.length
    have en : min la.toArray.size lb.toArray.size = i := by
      rw [List.size_toArray, List.size_toArray]
      omega
    rw [en] at W
    refine W.done s _ E ⟨s1, s2, s3, ⟨s4, pa.isList⟩, ⟨s5, pb⟩⟩ fun h1 tk k1 => ⟨rfl, ?_⟩
    exact I.turnedL (t' := tk) (ch := [z, TI, TO, i1, i2]) (fun c o hb' q => k1 c o (fun m => hb' (by rcases (by simpa using m : c = z ∨ c = TO ∨ c = i1 ∨ c = i2) with rfl | rfl | rfl | rfl <;> simp)) q) hf
def iZipLT (K : PySem.W.Frag) (ta : TA) : TI := fun σ H R => ta σ H fun vs H1 => ∃ a b us ws, vs = [.ref a, .ref b] ∧ SqL K H1 a us ∧ SqT K H1 b ws ∧ R (ItLT K a b) H1
theorem pi_zipLT {X : Cx} {e e2 : Expr} {ta : TA} {p pos tpos : Pos} {elts : List Expr} {kk : Nat} (hg : Gl X "zip") (hm : X.mg "zip" = none) (ha : PA X [e, e2] ta)
    (hs : starEach [e, e2] X.env = (false, eval e X.env) :: starEach [e2] X.env := by rfl) (hpl : (backTo pos (starEach [e2] X.env)).any (·.1) = false := by rfl) : PI X (.Tuple elts kk tpos) (.Call (.Name "zip" p) [e, e2] [] pos) (iZipLT X.K ta) := by
  refine ⟨fun pins s σ H R I h => Call_ (ld_blt I hg hm PyProof.Rows.boot_zip (PyProof.Rows.callWith_type1 (thn (ha.run pos pins s σ H _ I h) fun us s1 ⟨vs, H1, I1, r1, q1⟩ => ?_) hs hpl))⟩
  obtain ⟨a, b, ul, wl, rfl, qa, qb, q⟩ := q1
  obtain ⟨v1, v2, rfl, t1, t2⟩ := vals2 r1
  cases t1
  cases t2
  obtain ⟨la, ra, pa, _⟩ := I1.list qa
  obtain ⟨lb, rb, pb, _⟩ := I1.tuple qb
  obtain ⟨ob, hob, _⟩ := id pb
  have lt1 : a < s1.heap.objs.size := pa.lt
  have lt2 : b < s1.heap.objs.size := Heap.lt_size hob
  refine zip_begins2 (begins_list a la.toArray) (begins_tuple b lb.toArray) pa.isList pb fun h' hz hTI hTO g1 g2 hsz hk => wpAny_pyIter_zip hz ?_
  have J : Inv X pins σ H1 { s1 with heap := h' } := I1.kept (t' := s1.toks) hk
  have S := zip_sep2 (N := s1.heap.objs.size) (fp1 := [a]) (fp2 := [b]) (fun c hc => by rw [List.mem_singleton.mp hc]; exact lt1) (fun c hc => by rw [List.mem_singleton.mp hc]; exact lt2)
  refine ⟨_, _, _, _, H1, rfl, J, turn_LT S (Nat.ne_of_lt lt1) (Nat.ne_of_lt (Nat.lt_succ_of_lt lt2)), ⟨hz, hTI, ⟨_, _, hTO⟩, ⟨_, g1, rfl, rfl⟩, ⟨_, g2, rfl, rfl⟩⟩, fun c hcm => ?_, q⟩
  have le : s1.heap.objs.size ≤ c := by
    rcases (by simpa using hcm : c = s1.heap.objs.size + 4 ∨ c = s1.heap.objs.size + 2 ∨ c = s1.heap.objs.size + 3 ∨ c = s1.heap.objs.size ∨ c = s1.heap.objs.size + 1) with e | e | e | e | e <;> (rw [e]; first | exact Nat.le_refl _ | exact Nat.le_add_right _ _)
  exact I1.fpOk le (I1.hok.fresh le)
theorem walk_LT {K : PySem.W.Frag} {a b : Addr} {us ws : List V} {n : Nat} (hx : us.length = n) (hy : ws.length = n) : Walk (ItLT K a b) n (fun H => SqL K H a us ∧ SqT K H b ws) (YPair (fun i => us[i]?) (fun i => ws[i]?)) := by
  refine ⟨fun i H hi q => ⟨us, ws, us[i]'(by omega), ws[i]'(by omega), q.1, q.2, List.getElem?_eq_getElem _, List.getElem?_eq_getElem _⟩, fun H q => ⟨us, ws, q.1, q.2, hx, hy⟩, fun i H v H' hi q y => ?_⟩
  obtain ⟨T, x, z, h1, h2, h3, h4, h5⟩ := y
  exact ⟨T, x, z, h1, h2, h3, h4 us q.1, h5 ws q.2⟩
end NG

namespace NG
open PySem PySem.Spec PyProof.Rows L2
/-! ### enumerate of a tuple -/
set_option maxHeartbeats 1000000 in
theorem enum_new1 {v : Value} {ob : Obj} {Hv : Heap → Prop} (B : Begins v ob Hv) :
    Meets (Builtin.«enumerate.__new__» ⟨[.type "enumerate", v], []⟩) (fun _ R st => Hv st.heap ∧ R (.ok (.ret (.ref (st.heap.push ob).objs.size))) { st with heap := (st.heap.push ob).push { cls := .type "enumerate", data := .fields #[.none, .bool false, .ref st.heap.objs.size, rawInt 0, .none, .none] } }) := by
  refine .of_wp fun pr wl A R st h => ?_
  obtain ⟨hp, g, d, tk, os⟩ := st
  obtain ⟨hv, hR⟩ := h
  have se := sub_enumerate
  have qi : ∀ {A' : Around} {E : Value → Shared → Prop} {Q : Value → Shared → Prop}, Q (.ref hp.objs.size) ⟨hp.push ob, g, d, tk, os⟩ → wpAny (model pr wl) A' (pyIter v) Q E ⟨hp, g, d, tk, os⟩ := fun q => B.iter pr wl _ _ ⟨hp, g, d, tk, os⟩ _ hv q
  wp_walk using qi
  refine wpAny_stack_any fun sk => wpAny_pure ?_
  split
  · rename_i c _ _ _ _ _
    cases (c == Value.type "enumerate")
    all_goals
      wp_walk using qi
      exact ⟨_, rfl, hR⟩
  · wp_walk using qi
    exact ⟨_, rfl, hR⟩
theorem enum_call1 {pr : Program} {wl : World} {A : Around} {E : Value → Shared → Prop} {st : Shared} {v : Value} {ob : Obj} {Hv : Heap → Prop} {Q : Value → Shared → Prop} (B : Begins v ob Hv) (hv : Hv st.heap)
    (hQ : ∀ h', IsEnum h' (st.heap.objs.size + 1) st.heap.objs.size 0 .none → h'.get? st.heap.objs.size = some ob → (∀ b o, st.heap.get? b = some o → h'.get? b = some o) → Q (.ref (st.heap.objs.size + 1)) { st with heap := h' }) : wpAny (model pr wl) A (call (.type "enumerate") [v]) Q E st := by
  refine callType_new F.called_enumerate (by decide) (F.typeCall_enumerate_1 _) (F.newCall_enumerate_1 _) (fun x => F.args_object_init_2 x _) F.entry_enumerate_new (enum_new1 B) ⟨hv, ?_⟩
  have sz : (st.heap.push ob).objs.size = st.heap.objs.size + 1 := Heap.size_push ..
  show _ ∧ _
  rw [sz]
  have ie : IsEnum ((st.heap.push ob).push { cls := .type "enumerate", data := .fields #[.none, .bool false, .ref st.heap.objs.size, rawInt 0, .none, .none] }) (st.heap.objs.size + 1) st.heap.objs.size 0 .none := by
    have t := Heap.get?_push_size (st.heap.push ob) (o := { cls := .type "enumerate", data := .fields #[.none, .bool false, .ref st.heap.objs.size, rawInt 0, .none, .none] }) rfl
    rw [sz] at t
    exact t
  exact ⟨⟨_, ie, rfl⟩, hQ _ ie (Heap.get?_push_of_some _ (Heap.get?_push_size _ B.free)) fun b o x => Heap.get?_push_of_some _ (Heap.get?_push_of_some _ x)⟩
def ItEn (K : PySem.W.Frag) (a : Addr) : It :=
  ⟨fun i H => ∃ (ws : List V) (v : V), SqT K H a ws ∧ ws[i]? = some v,
   fun i H r H' => ∃ (T : Addr) (v : V), r = .ref T ∧ H T = none ∧ H' = upd H T (.tup [.int (i : Nat), v]) ∧ ∀ ws, SqT K H a ws → ws[i]? = some v,
   fun i H => ∃ ws : List V, SqT K H a ws ∧ ws.length = i⟩
theorem turn_En {P : Program} {w : World} {K : PySem.W.Frag} {es : List Expr} {k : Nat} {ps : Pos} {a e it : Addr} (ne : e ≠ it) (nea : e ≠ a) (na : a ≠ it) :
    Turn P w K (.Tuple es k ps) (ItEn K a) [e, it] e (fun i h => (∃ old, IsEnum h e it ((i : Nat) : Int) old) ∧ h.IsTupleIter it a i) := by
  have two : ∀ {c : Addr}, c ∈ [e, it] → c = e ∨ c = it := fun h => by simpa using h
  have lives : ∀ (i : Nat) (h : Heap), ((∃ old, IsEnum h e it ((i : Nat) : Int) old) ∧ h.IsTupleIter it a i) → ∀ c ∈ [e, it], ∃ o, h.get? c = some o ∧ ∀ v, o.data ≠ .cell v := fun i h st c hc => by
    obtain ⟨⟨old, s1⟩, ⟨o5, s5, _, d5⟩⟩ := st
    rcases two hc with rfl | rfl
    · exact ⟨_, s1, fun v q => nomatch q⟩
    · exact ⟨o5, s5, fun v q => by rw [d5] at q; exact nomatch q⟩
  have hef : e ∉ [it, a] := fun m => by
    rcases (by simpa using m : e = it ∨ e = a) with q | q
    · exact ne q
    · exact nea q
  refine ⟨List.mem_cons_self, lives, fun i h h' st kp => ?_, fun X eP ew eK hc i pins s σ H E I hf st hg => ?_, fun X eP ew eK hc i pins s σ H E I hf st hg => ?_, fun A i s Q E st q => let ⟨⟨_, z⟩, _⟩ := st; wpAny_pyIter_enum z q⟩
  · obtain ⟨⟨old, s1⟩, s5⟩ := st
    exact ⟨⟨old, kp _ (by simp) _ s1⟩, s5.at fun o q => kp _ (by simp) o q⟩
  · cases eP
    cases ew
    cases eK
    have lv := lives i _ st
    obtain ⟨s1, s5⟩ := st
    obtain ⟨ws, v, qb, hv⟩ := hg
    obtain ⟨lb, rb, pb, _⟩ := I.tuple qb
    obtain ⟨v', ev', rv⟩ := rb.get hv
    have W := WalksT.enumerateD (A := X.A) (Draws.tuple (prog := X.prog) (w := X.w) (A := X.A.in1) (I.ok.hd hc) it a na lb.toArray) e ne hef List.mem_cons_self
    have ir : i < lb.length := (List.getElem?_eq_some_iff.mp ev').1
    refine W.item i s _ E (by rw [List.size_toArray]; omega) ⟨s1, s5, pb⟩ fun T vals h1 tk pv hT tT mid k1 => ⟨_, rfl, ?_⟩
    have apT := W.apart i T h1 mid
    refine W.go es k ps i T _ _ _ mid fun h2 st2 k2 => ?_
    obtain ⟨t2, x2, e2, rfl⟩ := pv
    have f2 : x2 = v' := by
      have := e2.symm.trans (show lb.toArray[i]? = some v' by simpa using ev')
      exact Option.some.inj this
    subst f2
    obtain ⟨z1, z5, _⟩ := st2
    have tT2 : h2.IsTuple T #[.int i t2, x2] := tT.at fun o e => k2 T o apT e
    have J := I.turnedNew (h' := h2) (t' := tk) (ch := [e, it]) (T := T) (ob := .tup [.int (i : Nat), v]) (fun c o hb' q => k2 c o hb' (k1 c o hb' q)) hf hT ⟨(by show 2 ≤ sizeLine; decide), [.int i t2, x2], .cons ⟨_, rfl⟩ (.cons rv .nil), tT2⟩
    refine ⟨.ref T, _, J, rfl, ⟨T, v, rfl, I.hok.fresh hT, rfl, fun l hl => ?_⟩, ⟨z1, z5⟩, fun c hcm => ?_⟩
    · rw [I.tuple_inj hl qb]
      exact hv
    · obtain ⟨o, ho, _⟩ := lv c hcm
      have lt := Heap.lt_size ho
      rw [upd_ne (Nat.ne_of_lt (Nat.lt_of_lt_of_le lt hT))]
      exact (hf c hcm).1
  · cases eP
    cases ew
    cases eK
    obtain ⟨s1, s5⟩ := st
    obtain ⟨ws, qb, e2⟩ := hg
    obtain ⟨lb, rb, pb, _⟩ := I.tuple qb
    have W := WalksT.enumerateD (A := X.A) (Draws.tuple (prog := X.prog) (w := X.w) (A := X.A.in1) (I.ok.hd hc) it a na lb.toArray) e ne hef List.mem_cons_self
    have l2 := rb.length
    have en : lb.toArray.size = i := by
      rw [List.size_toArray]
      omega
    rw [en] at W
    refine W.done s _ E ⟨s1, s5, pb⟩ fun h1 tk k1 => ⟨rfl, ?_⟩
    exact I.turnedL (t' := tk) (ch := [e, it]) (fun c o hb' q => k1 c o hb' q) hf
def iEnT (K : PySem.W.Frag) (ta : TA) : TI := fun σ H R => ta σ H fun vs H1 => ∃ a ws, vs = [.ref a] ∧ SqT K H1 a ws ∧ R (ItEn K a) H1
theorem pi_enumT {X : Cx} {x : Expr} {ta : TA} {p pos tpos : Pos} {elts : List Expr} {kk : Nat} (hg : Gl X "enumerate") (hm : X.mg "enumerate" = none) (ha : PA X [x] ta)
    (hs : starEach [x] X.env = [(false, eval x X.env)] := by rfl) : PI X (.Tuple elts kk tpos) (.Call (.Name "enumerate" p) [x] [] pos) (iEnT X.K ta) := by
  refine ⟨fun pins s σ H R I h => Call_ (ld_blt I hg hm boot_enumerate (PyProof.Rows.callWith_type1 (thn (ha.run pos pins s σ H _ I h) fun us s1 ⟨vs, H1, I1, r1, q1⟩ => ?_) hs rfl))⟩
  obtain ⟨a, wl, rfl, qb, q⟩ := q1
  rw [Vals.ref1 r1]
  obtain ⟨lb, rb, pb, _⟩ := I1.tuple qb
  obtain ⟨ob, hob, _⟩ := id pb
  have lt2 : a < s1.heap.objs.size := Heap.lt_size hob
  refine enum_call1 (begins_tuple a lb.toArray) pb fun h' he g2 hk => wpAny_pyIter_enum he ?_
  have J : Inv X pins σ H1 { s1 with heap := h' } := I1.kept (t' := s1.toks) hk
  refine ⟨_, _, _, _, H1, rfl, J, turn_En (a := a) (e := s1.heap.objs.size + 1) (it := s1.heap.objs.size) (Nat.succ_ne_self _) (Nat.ne_of_gt (Nat.lt_succ_of_lt lt2)) (Nat.ne_of_lt lt2), ⟨⟨.none, he⟩, ⟨_, g2, rfl, rfl⟩⟩, fun c hcm => ?_, q⟩
  have le : s1.heap.objs.size ≤ c := by
    rcases (by simpa using hcm : c = s1.heap.objs.size + 1 ∨ c = s1.heap.objs.size) with e | e <;> (rw [e]; first | exact Nat.le_refl _ | exact Nat.le_add_right _ _)
  exact I1.fpOk le (I1.hok.fresh le)
theorem walk_En {K : PySem.W.Frag} {a : Addr} {ws : List V} {n : Nat} (hy : ws.length = n) : Walk (ItEn K a) n (fun H => SqT K H a ws) (YPair (fun i => some (.int (i : Nat))) (fun i => ws[i]?)) := by
  refine ⟨fun i H hi q => ⟨ws, ws[i]'(by omega), q, List.getElem?_eq_getElem _⟩, fun H q => ⟨ws, q, hy⟩, fun i H v H' hi q y => ?_⟩
  obtain ⟨T, z, h1, h2, h3, h4⟩ := y
  exact ⟨T, .int (i : Nat), z, h1, h2, h3, rfl, h4 ws q⟩
end NG

namespace NG
open PySem PySem.Spec PyProof.Rows L2
/-! ### the same with a truth for jumps -/
def spExprB (K : PySem.W.Frag) (m : Nat) : Sp := fun vs H Q _ => ∃ (a : Addr) (many l n : Nat) (j : Bool), vs = [.ref a, .int (many : Int), .int (l : Int), .bl j] ∧ True ∧ l < m ∧ 1 ≤ many ∧ many ≤ 1000 ∧ HandAt H a n ∧ n + cost l ≤ 999999000 ∧
  ∀ H' v e, But a H H' → HandAt H' a (n + cost l) → ExAt K H' e v → ExOk many e → e.dep ≤ l + 1 → Q v H'
/-- a stake: cut to its far -/
def spStakeB (K : PySem.W.Frag) (m : Nat) : Sp := fun vs H Q _ => ∃ (a : Addr) (many l n : Nat) (j : Bool), vs = [.ref a, .int (many : Int), .int (l : Int), .bl j] ∧ True ∧ l < m ∧ 1 ≤ many ∧ many ≤ 1000 ∧ HandAt H a n ∧ n + cost l ≤ 999998000 ∧
  ∀ H' v e, But a H H' → HandAt H' a (n + cost l + 3) → ExAt K H' e v → ExOk many e → e.dep ≤ l + 3 → (∃ c : Int, e = .fig c ∧ -500 ≤ c ∧ c ≤ 500) ∨ (∃ (c : Int) (e' : Ex), e = .two .least (.fig c) (.two .most (.fig (-c)) e') ∧ 1 ≤ c ∧ c ≤ 500 ∧ ExOk many e' ∧ e'.dep ≤ l + 1) → Q v H'
def spDoubterB (K : PySem.W.Frag) (m : Nat) : Sp := fun vs H Q _ => ∃ (a : Addr) (many l n : Nat) (j : Bool), vs = [.ref a, .int (many : Int), .int (l : Int), .bl j] ∧ True ∧ l < m ∧ l ≤ 5 ∧ 1 ≤ many ∧ many ≤ 3 ∧ HandAt H a n ∧ n ≤ 999990000 ∧
  ∀ H' v D, But a H H' → HandAt H' a (n + 3 * cost l + 300) → DbAt K H' D v → DbOk many (l + 3) 2 10 D → (∀ e ∈ D.stakes, StOk many l e) → Q v H'
end NG

namespace NG
open PySem PySem.Spec PyProof.Rows L2
/-! ### a tuple so many times, any number of times -/
theorem mul_itself (l : Addr) (its : Array Value) (n : Nat) (dd : Option Addr) (sl : Array (Option Value)) (x : Int) (u : Tok) (c0 : (decide (x < -(2 ^ 63)) || decide (x ≥ 2 ^ 63)) = false) (c1 : (its.isEmpty || x == 1) = true) :
    Meets (Builtin.«tuple.__mul__» ⟨[.ref l, .int x u], []⟩) (fun _ R st => st.heap.get? l = some { cls := .type "tuple", dict := dd, data := .seq its n, slots := sl } ∧ R (.ok (.ret (Value.ref l))) st) := by
  refine .of_wp fun pr wl A R st h => ?_
  obtain ⟨hp, g, d, tk, os⟩ := st
  obtain ⟨hl, hR⟩ := h
  have f1 := AutoSeq1.idx_int
  wp_walk using wpAny_loadPart' hl
  repeat (first
    | (refine wpAny_ite_false (decide_eq_false (by rw [c0]; exact Bool.false_ne_true)) ?_; wp_walk using wpAny_loadPart' hl)
    | (refine wpAny_ite_true (decide_eq_true c1) ?_; wp_walk using wpAny_loadPart' hl))
  exact ⟨_, rfl, hR⟩
theorem mul_none (l : Addr) (its : Array Value) (n : Nat) (dd : Option Addr) (sl : Array (Option Value)) (x : Int) (u : Tok) (c0 : (decide (x < -(2 ^ 63)) || decide (x ≥ 2 ^ 63)) = false) (c1 : (its.isEmpty || x == 1) = false) (c2 : (decide (x ≤ 0) || its.isEmpty) = true) :
    Meets (Builtin.«tuple.__mul__» ⟨[.ref l, .int x u], []⟩) (fun _ R st => st.heap.get? l = some { cls := .type "tuple", dict := dd, data := .seq its n, slots := sl } ∧ R (.ok (.ret (Value.ref st.heap.objs.size))) { st with heap := st.heap.push { cls := Value.type "tuple", data := Data.seq #[] } }) := by
  refine .of_wp fun pr wl A R st h => ?_
  obtain ⟨hp, g, d, tk, os⟩ := st
  obtain ⟨hl, hR⟩ := h
  have f1 := AutoSeq1.idx_int
  wp_walk using wpAny_loadPart' hl
  repeat (first
    | (refine wpAny_ite_false (decide_eq_false (by rw [c0]; exact Bool.false_ne_true)) ?_; wp_walk using wpAny_loadPart' hl)
    | (refine wpAny_ite_false (decide_eq_false (by rw [c1]; exact Bool.false_ne_true)) ?_; wp_walk using wpAny_loadPart' hl)
    | (refine wpAny_ite_true (decide_eq_true c2) ?_; wp_walk using wpAny_loadPart' hl))
  exact ⟨_, rfl, hR⟩
def rRepA (K : PySem.W.Frag) : R2 := fun x y H Q => ∃ l k xs, x = .ref l ∧ y = .int k ∧ SqT K H l xs ∧ -1000 ≤ k ∧ k ≤ 1000 ∧ xs.length ≤ 1000 ∧ ∀ H' p, Same H H' → SqT K H' p (List.replicate k.toNat xs).flatten → Q (.ref p) H'
theorem op_repA {X : Cx} : OpR X (binaryOp .Mult) (rRepA X.K) := by
  intro pins s σ H x y v u Q I rx ry h
  obtain ⟨l, k, xs, rfl, rfl, hT, h0, h2, hz, q⟩ := h
  by_cases hbig : xs ≠ [] ∧ 2 ≤ k
  · exact op_repT pins s σ H _ _ v u Q I rx ry ⟨l, k, xs, rfl, rfl, hT, hbig.1, hbig.2, h2, hz, fun p np => q _ p (same_new np) (SqT.of upd_same)⟩
  · have rx0 := rx
    cases rx
    obtain ⟨t, rfl⟩ := ry
    obtain ⟨its, r, ⟨⟨cls, dd, data, sl⟩, ho, hc, n, hd⟩, hs⟩ := I.tuple hT
    simp only at hc hd
    subst hc hd
    have hle : its.length = xs.length := r.length.symm
    have c0 : (decide (k < -(2 ^ 63)) || decide (k ≥ 2 ^ 63)) = false := by
      rw [decide_eq_false (by omega), decide_eq_false (by omega)]
      rfl
    by_cases hone : xs = [] ∨ k = 1
    · have c1 : (its.toArray.isEmpty || k == 1) = true := by
        rcases hone with e | e
        · rw [e] at hle
          have : its = [] := List.eq_nil_of_length_eq_zero hle
          rw [this]
          rfl
        · rw [e]
          simp
      have e1 : (List.replicate k.toNat xs).flatten = xs := by
        rcases hone with e | e
        · rw [e]
          simp
        · rw [e]
          simp
      refine wpAny_binaryOp_repeat_ref (T := "tuple") (U := "int") (by decide) ⟨_, ho, rfl⟩ (fun s' => typeIs_int s' k t) noFill_tuple_mul F.fills_int_mul F.slot_int_rmul repeat_tuple F.slot_int_index.lookup
        (call_meets F.slot_int_rmul (typeIs_int s k t) F.entry_int_rmul (F.args_int_rmul_2 _ _) (int_rmul_tuple k t l its.toArray n dd sl) ⟨ho, rfl, ⟨_, ho, rfl⟩, call_meets F.slot_tuple_mul ⟨_, ho, rfl⟩ F.entry_tuple_mul (F.args_tuple_mul_2 _ _) (mul_itself l its.toArray n dd sl k t c0 c1) ⟨ho, ?_⟩⟩)
      exact ⟨.ref l, H, I, rfl, q H l (Same.refl _) (by rw [e1]; exact hT)⟩
    · have hk0 : k ≤ 0 := by
        have h1 : ¬ xs = [] := fun z => hone (.inl z)
        have h2 : ¬ k = 1 := fun z => hone (.inr z)
        have h3 : ¬ 2 ≤ k := fun z => hbig ⟨h1, z⟩
        omega
      have hn : its ≠ [] := fun e => hone (.inl (by
        rw [e] at hle
        exact List.eq_nil_of_length_eq_zero hle.symm))
      have hi : its.toArray.isEmpty = false := by
        cases its with
        | nil => exact absurd rfl hn
        | cons a b => rfl
      have c1 : (its.toArray.isEmpty || k == 1) = false := by
        rw [hi, Bool.false_or]
        exact beq_eq_false_iff_ne.mpr (by omega)
      have c2 : (decide (k ≤ 0) || its.toArray.isEmpty) = true := by
        rw [decide_eq_true hk0]
        rfl
      have e0 : (List.replicate k.toNat xs).flatten = [] := by
        rw [show k.toNat = 0 by omega]
        rfl
      refine wpAny_binaryOp_repeat_ref (T := "tuple") (U := "int") (by decide) ⟨_, ho, rfl⟩ (fun s' => typeIs_int s' k t) noFill_tuple_mul F.fills_int_mul F.slot_int_rmul repeat_tuple F.slot_int_index.lookup
        (call_meets F.slot_int_rmul (typeIs_int s k t) F.entry_int_rmul (F.args_int_rmul_2 _ _) (int_rmul_tuple k t l its.toArray n dd sl) ⟨ho, rfl, ⟨_, ho, rfl⟩, call_meets F.slot_tuple_mul ⟨_, ho, rfl⟩ F.entry_tuple_mul (F.args_tuple_mul_2 _ _) (mul_none l its.toArray n dd sl k t c0 c1 c2) ⟨ho, ?_⟩⟩)
      have np : H s.heap.objs.size = none := I.hok.fresh (Nat.le_refl _)
      refine ⟨.ref s.heap.objs.size, _, I.laid (t' := s.toks) (o := .tup []) (fun b ob q => Heap.get?_push_of_some _ q) (Nat.le_refl _) ?_, rfl, q _ _ (same_new np) (by rw [e0]; exact SqT.of upd_same)⟩
      exact ⟨Nat.zero_le _, [], .nil, IsTup.new _ _⟩
end NG

namespace NG
open PySem PySem.Spec PyProof.Rows L2
/-! ### what is shown, of small numbers -/
structure Shh (d : PyData) (w k : Nat) : Prop where
  sh : d.showable = true
  lf : d.leavesShort 70 = true
  wt : d.weight ≤ w
  dp : d.depth ≤ k
structure ShhAll (ds : List PyData) (w k : Nat) : Prop where
  sh : PyData.showableAll ds = true
  lf : PyData.leavesShortAll 70 ds = true
  wt : PyData.weightAll ds ≤ w
  dp : PyData.depthAll ds ≤ k
theorem Shw.hh {d : PyData} {w k : Nat} (h : Shw d w k) (l : d.leavesShort 70 = true) : Shh d w k := ⟨h.sh, l, h.wt, h.dp⟩
theorem int60 {i : Int} (h : i.natAbs < 2 ^ 60) : PyData.leavesShort 70 (.int i) = true := by
  have hl : i.natAbs.log2 < 60 := PySem.Flt.log2_lt_of (by decide) h
  show decide ((PyData.shown (.int i)).length ≤ 70) = true
  refine decide_eq_true ?_
  have e := int_text_length_le (k := 60) (by decide) hl
  show (Str.ofString (toString i)).length ≤ 70
  rw [PySem.ofString_length]
  omega
theorem Shh.int {i : Int} (h : i.natAbs < 2 ^ 60) : Shh (.int i) 60 0 := by
  have hl : i.natAbs.log2 < 60 := PySem.Flt.log2_lt_of (by decide) h
  have h6 := Shw.int (i := i) (Nat.lt_of_lt_of_le h (Nat.pow_le_pow_right (by decide) (by decide)))
  refine ⟨h6.sh, int60 h, ?_, Nat.le_refl _⟩
  show (if i == 0 then 0 else i.natAbs.log2 + 1) ≤ 60
  split <;> omega
theorem Shh.str {x : Str} (h : (x.cps.toList.all fun c => decide (c < 16 ^ 8)) = true) (hl : x.cps.size ≤ 10) : Shh (.str x) 10 0 := ⟨rfl, h, hl, Nat.le_refl _⟩
theorem ShhAll.nil {k : Nat} : ShhAll [] 0 k := ⟨rfl, rfl, Nat.le_refl _, Nat.zero_le _⟩
theorem ShhAll.cons {d : PyData} {ds : List PyData} {w1 w2 k1 k2 k : Nat} (h1 : Shh d w1 k1) (h2 : ShhAll ds w2 k2) (hk1 : k1 ≤ k) (hk2 : k2 ≤ k) : ShhAll (d :: ds) (w1 + 1 + w2) k := by
  refine ⟨?_, ?_, ?_, ?_⟩
  · show (d.showable && PyData.showableAll ds) = true
    rw [h1.sh, h2.sh]
    rfl
  · show (d.leavesShort 70 && PyData.leavesShortAll 70 ds) = true
    rw [h1.lf, h2.lf]
    rfl
  · show d.weight + 1 + PyData.weightAll ds ≤ _
    have a := h1.wt
    have b := h2.wt
    omega
  · show max d.depth (PyData.depthAll ds) ≤ k
    have a := h1.dp
    have b := h2.dp
    omega
theorem ShhAll.tup {ds : List PyData} {w k : Nat} (h : ShhAll ds w k) : Shh (.tuple ds) w (k + 1) := ⟨h.sh, h.lf, h.wt, by show PyData.depthAll ds + 1 ≤ k + 1; have := h.dp; omega⟩
theorem ShhAll.lst {ds : List PyData} {w k : Nat} (h : ShhAll ds w k) : Shh (.list ds) w (k + 1) := ⟨h.sh, h.lf, h.wt, by show PyData.depthAll ds + 1 ≤ k + 1; have := h.dp; omega⟩
theorem Shh.mono {d : PyData} {w w' k k' : Nat} (h : Shh d w k) (hw : w ≤ w') (hk : k ≤ k') : Shh d w' k' := ⟨h.sh, h.lf, Nat.le_trans h.wt hw, Nat.le_trans h.dp hk⟩
theorem ShhAll.mono {d : List PyData} {w w' k k' : Nat} (h : ShhAll d w k) (hw : w ≤ w') (hk : k ≤ k') : ShhAll d w' k' := ⟨h.sh, h.lf, Nat.le_trans h.wt hw, Nat.le_trans h.dp hk⟩
theorem Shh.fits {d : PyData} {w k : Nat} (h : Shh d w k) (hw : w ≤ 230000) : d.shown.length ≤ sizeLine := by
  have := PyData.shown_le 70 (by decide) d h.lf
  have := h.wt
  have e : sizeLine = 16777216 := by decide
  omega
theorem ShhAll.app {es : List PyData} {w2 k : Nat} : ∀ {ds : List PyData} {w1 : Nat}, ShhAll ds w1 k → ShhAll es w2 k → ShhAll (ds ++ es) (w1 + w2) k
  | [], w1, _, h2 => h2.mono (by omega) (Nat.le_refl _)
  | d :: ds, w1, h1, h2 => by
    have s1 : (d.showable && PyData.showableAll ds) = true := h1.sh
    have s2 : (d.leavesShort 70 && PyData.leavesShortAll 70 ds) = true := h1.lf
    have s3 : d.weight + 1 + PyData.weightAll ds ≤ w1 := h1.wt
    have s4 : max d.depth (PyData.depthAll ds) ≤ k := h1.dp
    have s1 := Bool.and_eq_true_iff.mp s1
    have s2 := Bool.and_eq_true_iff.mp s2
    have hd : Shh d d.weight k := ⟨s1.1, s2.1, Nat.le_refl _, by omega⟩
    have hr : ShhAll ds (PyData.weightAll ds) k := ⟨s1.2, s2.2, Nat.le_refl _, by omega⟩
    exact (ShhAll.cons hd (ShhAll.app hr h2) (Nat.le_refl _) (Nat.le_refl _)).mono (by omega) (Nat.le_refl _)
theorem lf_and {d : PyData} {ds : List PyData} (h : d.leavesShort 70 = true) (t : PyData.leavesShortAll 70 ds = true) : PyData.leavesShortAll 70 (d :: ds) = true := by
  show (d.leavesShort 70 && PyData.leavesShortAll 70 ds) = true
  rw [h, t]
  rfl
theorem lf_ex {many : Nat} (hm : many ≤ 1000) : ∀ {e : Ex}, ExOk many e → (toD e).leavesShort 70 = true
  | .fig c, o => lf_and (d := .str "fig") (by decide) (lf_and (int60 (by have := o.1; have := o.2; omega)) rfl)
  | .reg i, o => lf_and (d := .str "reg") (by decide) (lf_and (int60 (by have o : i < 4 := o; omega)) rfl)
  | .share j, o => lf_and (d := .str "share") (by decide) (lf_and (int60 (by have o : j < many := o; omega)) rfl)
  | .two w a b, o => lf_and (d := .str (wn w)) (by cases w <;> decide) (lf_and (lf_ex hm o.1) (lf_and (lf_ex hm o.2) rfl))
  | .times f a, o => lf_and (d := .str "times") (by decide) (lf_and (int60 (by have := o.1.1; have := o.1.2; omega)) (lf_and (lf_ex hm o.2) rfl))
  | .by i a, o => lf_and (d := .str "by") (by decide) (lf_and (int60 (by have := o.1; omega)) (lf_and (lf_ex hm o.2) rfl))
  | .when i c a b, o => lf_and (d := .str "when") (by decide) (lf_and (int60 (by have := o.1; omega)) (lf_and (int60 (by have := o.2.1.1; have := o.2.1.2; omega)) (lf_and (lf_ex hm o.2.2.1) (lf_and (lf_ex hm o.2.2.2) rfl))))
  | .whr j c a b, o => lf_and (d := .str "where") (by decide) (lf_and (int60 (by have := o.1; omega)) (lf_and (int60 (by have := o.2.1.1; have := o.2.1.2; omega)) (lf_and (lf_ex hm o.2.2.1) (lf_and (lf_ex hm o.2.2.2) rfl))))
theorem lf_ds {many : Nat} (hm : many ≤ 1000) : ∀ {d : Ds}, DsOk many d → PyData.leavesShortAll 70 (dsD d) = true
  | .nil, _ => rfl
  | .op w i x r, o => lf_and (d := .tuple [.str (dn w), .int (i : Int), .int x]) (lf_and (d := .str (dn w)) (by cases w <;> decide) (lf_and (int60 (by have := o.1; omega)) (lf_and (int60 (by have := xok_small hm o.2.1; omega)) rfl))) (lf_ds hm o.2.2)
  | .when i c a b r, o => lf_and (d := .tuple [.str "when", .int (i : Int), .int c, .tuple (dsD a), .tuple (dsD b)]) (lf_and (d := .str "when") (by decide) (lf_and (int60 (by have := o.1; omega)) (lf_and (int60 (by have := o.2.1.1; have := o.2.1.2; omega)) (lf_and (d := .tuple (dsD a)) (lf_ds hm o.2.2.1) (lf_and (d := .tuple (dsD b)) (lf_ds hm o.2.2.2.1) rfl))))) (lf_ds hm o.2.2.2.2)
theorem lf_list {α : Type} {f : α → PyData} : ∀ {xs : List α}, (∀ x ∈ xs, (f x).leavesShort 70 = true) → PyData.leavesShortAll 70 (xs.map f) = true
  | [], _ => rfl
  | x :: r, h => lf_and (h x (by simp)) (lf_list fun y hy => h y (List.mem_cons_of_mem _ hy))
theorem lf_db {many dE dD cD : Nat} {D : Dbt} (hm : many ≤ 1000) (o : DbOk many dE dD cD D) : (dbD D).leavesShort 70 = true := by
  refine lf_and (d := .str D.name) (by rcases o.nm with e | e | e | e <;> rw [e] <;> decide) (lf_and (int60 (by have := o.sc; omega)) (lf_and (d := .tuple (D.begins.map PyData.int)) (lf_list fun x hx => int60 (by have := o.rg.2 x hx; omega)) (lf_and (d := .tuple (D.stakes.map toD)) (lf_list fun e he => lf_ex hm (o.st e he).1) (lf_and (d := .tuple (D.behinds.map fun d => .tuple (dsD d))) (lf_list fun d hd => ?_) rfl))))
  exact lf_ds hm (o.bh d hd).1
end NG

namespace NG
open PySem PySem.Spec PyProof.Rows L2
/-! ### ones, members -/
structure One where
  dbt : Dbt
  regs : List Int
  weight : Int
  motes : Int
  owed : Int
  days : Int
  got : Int
def OneAt (K : PySem.W.Frag) (H : Hp) (o : One) (v : V) : Prop := ∃ (p : Addr) (dv rv : V), v = .ref p ∧ SqT K H p [.str "one", dv, rv, .int o.weight, .int o.motes, .int o.owed, .int o.days, .int o.got] ∧ DbAt K H o.dbt dv ∧ RegsAt K H o.regs rv
theorem OneAt.imp {K : PySem.W.Frag} {H H' : Hp} {o : One} {v : V} (x : OneAt K H o v) (h : ∀ p xs, SqT K H p xs → SqT K H' p xs) : OneAt K H' o v := by
  obtain ⟨p, dv, rv, e, q, d, r⟩ := x
  exact ⟨p, dv, rv, e, h _ _ q, d.imp h, r.imp h⟩
def oneD (o : One) : PyData := .tuple [.str "one", dbD o.dbt, .tuple (o.regs.map PyData.int), .int o.weight, .int o.motes, .int o.owed, .int o.days, .int o.got]
theorem OneAt.dp {K : PySem.W.Frag} {H : Hp} {o : One} {v : V} (x : OneAt K H o v) : Dp K H v (oneD o) := by
  obtain ⟨p, dv, rv, e, q, d, ⟨pr, e2, r, _⟩⟩ := x
  subst e e2
  exact .tup q (.cons (.str _) (.cons d.dp (.cons (.tup r (dp_ints _)) (.cons (.int _) (.cons (.int _) (.cons (.int _) (.cons (.int _) (.cons (.int _) .nil))))))))
structure OneOk (many dE dD cD : Nat) (o : One) : Prop where
  db : DbOk many dE dD cD o.dbt
  rg : RegOk o.regs
  w1 : 1 ≤ o.weight ∧ o.weight ≤ 1000000000000
  m1 : 0 ≤ o.motes ∧ o.motes ≤ 3000000000000
  o1 : 0 ≤ o.owed ∧ o.owed ≤ 99
  d1 : 0 ≤ o.days ∧ o.days ≤ 40
  g1 : -5000000000 ≤ o.got ∧ o.got ≤ 5000000000
theorem shh_one {many dE dD cD : Nat} {o : One} (hm : many ≤ 3) (hE : dE ≤ 8) (hD : dD ≤ 8) (h : OneOk many dE dD cD o) : Shh (oneD o) (600 + 3 * wgt dE + 180 * cD) 22 := by
  have h1 : Shh (.str "one") 10 0 := .str (by decide) (by decide)
  have h2 := (shw_db hm hE hD h.db).hh (lf_db (by omega) h.db)
  have h3 : Shh (.tuple (o.regs.map PyData.int)) (16 * o.regs.length) 1 := ((shw_smalls h.rg.2).tup).hh (lf_list fun x hx => int60 (by have := h.rg.2 x hx; omega))
  have i1 : Shh (.int o.weight) 60 0 := .int (by have := h.w1; omega)
  have i2 : Shh (.int o.motes) 60 0 := .int (by have := h.m1; omega)
  have i3 : Shh (.int o.owed) 60 0 := .int (by have := h.o1; omega)
  have i4 : Shh (.int o.days) 60 0 := .int (by have := h.d1; omega)
  have i5 : Shh (.int o.got) 60 0 := .int (by have := h.g1; omega)
  have hl := h.rg.1
  rw [hl] at h3
  have z : ShhAll [PyData.str "one", dbD o.dbt, .tuple (o.regs.map PyData.int), .int o.weight, .int o.motes, .int o.owed, .int o.days, .int o.got] _ 21 := .cons h1 (.cons h2 (.cons h3 (.cons i1 (.cons i2 (.cons i3 (.cons i4 (.cons i5 (ShhAll.nil (k := 0)) (k := 21) (by omega) (by omega)) (by omega) (Nat.le_refl _)) (by omega) (Nat.le_refl _)) (by omega) (Nat.le_refl _)) (by omega) (Nat.le_refl _)) (by omega) (Nat.le_refl _)) (by omega) (Nat.le_refl _)) (by omega) (Nat.le_refl _)
  exact z.tup.mono (by omega) (by omega)
inductive Ms where
  | nil
  | one (o : One) (r : Ms)
  | house (nm : Str) (m r : Ms)
inductive Mk where
  | one (o : One)
  | house (nm : Str) (m : Ms)
def MsAt (K : PySem.W.Frag) (H : Hp) : Ms → List V → Prop
  | .nil, vs => vs = []
  | .one o r, vs => ∃ v us, vs = v :: us ∧ OneAt K H o v ∧ MsAt K H r us
  | .house nm m r, vs => ∃ p pm xs us, vs = .ref p :: us ∧ SqT K H p [.str "house", .str nm, .ref pm] ∧ SqT K H pm xs ∧ MsAt K H m xs ∧ MsAt K H r us
theorem MsAt.imp {K : PySem.W.Frag} {H H' : Hp} (h : ∀ p xs, SqT K H p xs → SqT K H' p xs) : ∀ {m : Ms} {vs : List V}, MsAt K H m vs → MsAt K H' m vs
  | .nil, _, e => e
  | .one _ _, _, ⟨v, us, e, q, r⟩ => ⟨v, us, e, q.imp h, MsAt.imp h r⟩
  | .house _ _ _, _, ⟨p, pm, xs, us, e, q, qm, m, r⟩ => ⟨p, pm, xs, us, e, h _ _ q, h _ _ qm, MsAt.imp h m, MsAt.imp h r⟩
theorem MsAt.same {K : PySem.W.Frag} {H H' : Hp} {m : Ms} {vs : List V} (x : MsAt K H m vs) (s : Same H H') : MsAt K H' m vs := x.imp fun _ _ q => same_sqt s q
def MkAt (K : PySem.W.Frag) (H : Hp) : Mk → V → Prop
  | .one o, v => OneAt K H o v
  | .house nm m, v => ∃ p pm xs, v = .ref p ∧ SqT K H p [.str "house", .str nm, .ref pm] ∧ SqT K H pm xs ∧ MsAt K H m xs
theorem MkAt.imp {K : PySem.W.Frag} {H H' : Hp} (h : ∀ p xs, SqT K H p xs → SqT K H' p xs) : ∀ {m : Mk} {v : V}, MkAt K H m v → MkAt K H' m v
  | .one _, _, x => OneAt.imp x h
  | .house _ _, _, ⟨p, pm, xs, e, q, qm, m⟩ => ⟨p, pm, xs, e, h _ _ q, h _ _ qm, m.imp h⟩
def msD : Ms → List PyData
  | .nil => []
  | .one o r => oneD o :: msD r
  | .house nm m r => .tuple [.str "house", .str nm, .tuple (msD m)] :: msD r
def mkD : Mk → PyData
  | .one o => oneD o
  | .house nm m => .tuple [.str "house", .str nm, .tuple (msD m)]
theorem MsAt.dps {K : PySem.W.Frag} {H : Hp} : ∀ {m : Ms} {vs : List V}, MsAt K H m vs → DpAll K H vs (msD m)
  | .nil, _, e => by subst e; exact .nil
  | .one _ _, _, ⟨v, us, e, q, r⟩ => by subst e; exact .cons q.dp r.dps
  | .house _ _ _, _, ⟨p, pm, xs, us, e, q, qm, m, r⟩ => by subst e; exact .cons (.tup q (.cons (.str _) (.cons (.str _) (.cons (.tup qm m.dps) .nil)))) r.dps
theorem MkAt.dp {K : PySem.W.Frag} {H : Hp} : ∀ {m : Mk} {v : V}, MkAt K H m v → Dp K H v (mkD m)
  | .one _, _, x => OneAt.dp x
  | .house _ _, _, ⟨p, pm, xs, e, q, qm, m⟩ => by subst e; exact .tup q (.cons (.str _) (.cons (.str _) (.cons (.tup qm m.dps) .nil)))
theorem MkAt.ref {K : PySem.W.Frag} {H : Hp} : ∀ {m : Mk} {v : V}, MkAt K H m v → ∃ p, v = .ref p
  | .one _, _, ⟨p, _, _, e, _⟩ => ⟨p, e⟩
  | .house _ _, _, ⟨p, _, _, e, _⟩ => ⟨p, e⟩
def mkW : Mk → Str
  | .one _ => "one"
  | .house _ _ => "house"
/-- the word ahead -/
theorem MkAt.wd {K : PySem.W.Frag} {H : Hp} : ∀ {m : Mk} {v : V}, MkAt K H m v → ∃ p xs, v = .ref p ∧ SqT K H p (.str (mkW m) :: xs)
  | .one _, _, ⟨p, _, _, e, q, _⟩ => ⟨p, _, e, q⟩
  | .house _ _, _, ⟨p, _, _, e, q, _⟩ => ⟨p, _, e, q⟩
def Ms.cnt : Ms → Nat
  | .nil => 0
  | .one _ r => 1 + r.cnt
  | .house _ m r => 1 + m.cnt + r.cnt
def Ms.len : Ms → Nat
  | .nil => 0
  | .one _ r => r.len + 1
  | .house _ _ r => r.len + 1
def Ms.dep : Ms → Nat
  | .nil => 0
  | .one _ r => r.dep
  | .house _ m r => max (m.dep + 1) r.dep
theorem Ms.len_le : ∀ m : Ms, m.len ≤ m.cnt
  | .nil => Nat.le_refl _
  | .one _ r => by have := r.len_le; show r.len + 1 ≤ 1 + r.cnt; omega
  | .house _ m r => by have := r.len_le; show r.len + 1 ≤ 1 + m.cnt + r.cnt; omega
theorem MsAt.len {K : PySem.W.Frag} {H : Hp} : ∀ {m : Ms} {vs : List V}, MsAt K H m vs → vs.length = m.len
  | .nil, _, e => by subst e; rfl
  | .one _ _, _, ⟨v, us, e, q, r⟩ => by subst e; rw [List.length_cons, r.len]; rfl
  | .house _ _ _, _, ⟨p, pm, xs, us, e, q, qm, m, r⟩ => by subst e; rw [List.length_cons, r.len]; rfl
def Ms.app : Ms → Ms → Ms
  | .nil, e => e
  | .one o r, e => .one o (r.app e)
  | .house nm m r, e => .house nm m (r.app e)
theorem MsAt.app {K : PySem.W.Frag} {H : Hp} : ∀ {d e : Ms} {vs ws : List V}, MsAt K H d vs → MsAt K H e ws → MsAt K H (d.app e) (vs ++ ws)
  | .nil, _, _, _, e, y => by subst e; exact y
  | .one _ _, _, _, _, ⟨v, us, e, q, r⟩, y => by subst e; exact ⟨v, _, rfl, q, MsAt.app r y⟩
  | .house _ _ _, _, _, _, ⟨p, pm, xs, us, e, q, qm, m, r⟩, y => by subst e; exact ⟨p, pm, xs, _, rfl, q, qm, m, MsAt.app r y⟩
theorem Ms.cnt_app : ∀ d e : Ms, (d.app e).cnt = d.cnt + e.cnt
  | .nil, e => by show e.cnt = 0 + e.cnt; omega
  | .one _ r, e => by show 1 + (r.app e).cnt = 1 + r.cnt + e.cnt; rw [Ms.cnt_app r e]; omega
  | .house _ m r, e => by show 1 + m.cnt + (r.app e).cnt = 1 + m.cnt + r.cnt + e.cnt; rw [Ms.cnt_app r e]; omega
theorem Ms.dep_app : ∀ d e : Ms, (d.app e).dep = max d.dep e.dep
  | .nil, e => by show e.dep = max 0 e.dep; omega
  | .one _ r, e => Ms.dep_app r e
  | .house _ m r, e => by show max (m.dep + 1) (r.app e).dep = max (max (m.dep + 1) r.dep) e.dep; rw [Ms.dep_app r e]; omega
/-- each one in it -/
def Ms.all (P : One → Prop) : Ms → Prop
  | .nil => True
  | .one o r => P o ∧ r.all P
  | .house _ m r => m.all P ∧ r.all P
theorem Ms.all_app {P : One → Prop} : ∀ {d e : Ms}, d.all P → e.all P → (d.app e).all P
  | .nil, _, _, y => y
  | .one _ _, _, ⟨a, b⟩, y => ⟨a, Ms.all_app b y⟩
  | .house _ _ _, _, ⟨a, b⟩, y => ⟨a, Ms.all_app b y⟩
def nmOk (nm : Str) : Prop := (nm.cps.toList.all fun c => decide (c < 16 ^ 8)) = true ∧ nm.cps.size ≤ 10
def Ms.nms : Ms → Prop
  | .nil => True
  | .one _ r => r.nms
  | .house nm m r => nmOk nm ∧ m.nms ∧ r.nms
theorem Ms.nms_app : ∀ {d e : Ms}, d.nms → e.nms → (d.app e).nms
  | .nil, _, _, y => y
  | .one _ r, _, a, y => Ms.nms_app (d := r) a y
  | .house _ _ _, _, ⟨n, a, b⟩, y => ⟨n, a, Ms.nms_app b y⟩
def Ms.tl : Ms → Ms
  | .nil => .nil
  | .one _ r => r
  | .house _ _ r => r
def Ms.hd : Ms → Option Mk
  | .nil => none
  | .one o _ => some (.one o)
  | .house nm m _ => some (.house nm m)
def Ms.drop : Nat → Ms → Ms
  | 0, d => d
  | n + 1, d => (d.drop n).tl
theorem MsAt.tl {K : PySem.W.Frag} {H : Hp} : ∀ {d : Ms} {vs : List V}, MsAt K H d vs → MsAt K H d.tl (vs.drop 1)
  | .nil, _, e => by subst e; rfl
  | .one _ _, _, ⟨v, us, e, q, r⟩ => by subst e; exact r
  | .house _ _ _, _, ⟨p, pm, xs, us, e, q, qm, m, r⟩ => by subst e; exact r
theorem MsAt.drop {K : PySem.W.Frag} {H : Hp} {d : Ms} {vs : List V} (h : MsAt K H d vs) : ∀ n, MsAt K H (d.drop n) (vs.drop n)
  | 0 => h
  | n + 1 => by
    have := (MsAt.drop h n).tl
    rw [List.drop_drop] at this
    exact this
theorem MsAt.head {K : PySem.W.Frag} {H : Hp} : ∀ {d : Ms} {v : V} {us : List V}, MsAt K H d (v :: us) → ∃ k, d.hd = some k ∧ MkAt K H k v
  | .one o _, _, _, ⟨v, us, e, q, r⟩ => by cases e; exact ⟨.one o, rfl, q⟩
  | .house nm m _, _, _, ⟨p, pm, xs, us, e, q, qm, mm, r⟩ => by cases e; exact ⟨.house nm m, rfl, p, pm, xs, rfl, q, qm, mm⟩
theorem MsAt.nth {K : PySem.W.Frag} {H : Hp} {d : Ms} {vs : List V} {i : Nat} {v : V} (h : MsAt K H d vs) (hi : vs[i]? = some v) : ∃ k, (d.drop i).hd = some k ∧ MkAt K H k v := by
  have hil := (List.getElem?_eq_some_iff.mp hi).1
  have hd := h.drop i
  rw [List.drop_eq_getElem_cons hil, (List.getElem?_eq_some_iff.mp hi).2] at hd
  exact hd.head
theorem Ms.dep_tl : ∀ d : Ms, d.tl.dep ≤ d.dep
  | .nil => Nat.le_refl _
  | .one _ r => Nat.le_refl _
  | .house _ m r => by show r.dep ≤ max (m.dep + 1) r.dep; omega
theorem Ms.dep_drop (d : Ms) : ∀ n, (d.drop n).dep ≤ d.dep
  | 0 => Nat.le_refl _
  | n + 1 => Nat.le_trans (Ms.dep_tl _) (Ms.dep_drop d n)
theorem Ms.cnt_tl : ∀ d : Ms, d.tl.cnt ≤ d.cnt
  | .nil => Nat.le_refl _
  | .one _ r => by show r.cnt ≤ 1 + r.cnt; omega
  | .house _ m r => by show r.cnt ≤ 1 + m.cnt + r.cnt; omega
theorem Ms.cnt_drop (d : Ms) : ∀ n, (d.drop n).cnt ≤ d.cnt
  | 0 => Nat.le_refl _
  | n + 1 => Nat.le_trans (Ms.cnt_tl _) (Ms.cnt_drop d n)
/-- a house ahead lies deeper, is smaller -/
theorem Ms.hd_house {d : Ms} {nm : Str} {m : Ms} (h : d.hd = some (.house nm m)) : m.dep + 1 ≤ d.dep ∧ m.cnt + 1 ≤ d.cnt := by
  cases d with
  | nil => cases h
  | one o r => cases h
  | house n2 m2 r =>
    cases h
    exact ⟨by show m.dep + 1 ≤ max (m.dep + 1) r.dep; omega, by show m.cnt + 1 ≤ 1 + m.cnt + r.cnt; omega⟩
/-! ### all that stand, with their paths -/
def stdI : Ms → List Int → Int → List (List Int × Mk)
  | .nil, _, _ => []
  | .one o r, path, i => (path ++ [i], .one o) :: stdI r path (i + 1)
  | .house nm m r, path, i => (path ++ [i], .house nm m) :: (stdI m (path ++ [i]) 0 ++ stdI r path (i + 1))
def stdH : Option Mk → List Int → Int → List (List Int × Mk)
  | none, _, _ => []
  | some (.one o), path, i => [(path ++ [i], .one o)]
  | some (.house nm m), path, i => (path ++ [i], .house nm m) :: stdI m (path ++ [i]) 0
theorem stdI_step : ∀ (d : Ms) (path : List Int) (i : Int), stdI d path i = stdH d.hd path i ++ stdI d.tl path (i + 1)
  | .nil, _, _ => rfl
  | .one _ _, _, _ => rfl
  | .house _ _ _, _, _ => rfl
theorem stdI_len : ∀ (d : Ms) (path : List Int) (i : Int), (stdI d path i).length = d.cnt
  | .nil, _, _ => rfl
  | .one _ r, path, i => by show (stdI r path (i + 1)).length + 1 = 1 + r.cnt; rw [stdI_len r]; omega
  | .house _ m r, path, i => by show (stdI m (path ++ [i]) 0 ++ stdI r path (i + 1)).length + 1 = 1 + m.cnt + r.cnt; rw [List.length_append, stdI_len m, stdI_len r]; omega
def PrAt (K : PySem.W.Frag) (H : Hp) (x : List Int × Mk) (u : V) : Prop := ∃ (t h : Addr) (v : V), u = .ref t ∧ SqT K H t [.ref h, v] ∧ SqT K H h (x.1.map V.int) ∧ MkAt K H x.2 v
theorem PrAt.imp {K : PySem.W.Frag} {H H' : Hp} (h : ∀ p xs, SqT K H p xs → SqT K H' p xs) {x : List Int × Mk} {u : V} (y : PrAt K H x u) : PrAt K H' x u := by
  obtain ⟨t, q, v, e, a, b, c⟩ := y
  exact ⟨t, q, v, e, h _ _ a, h _ _ b, c.imp h⟩
def PrsAt (K : PySem.W.Frag) (H : Hp) : List V → List (List Int × Mk) → Prop
  | [], [] => True
  | u :: us, x :: xs => PrAt K H x u ∧ PrsAt K H us xs
  | _, _ => False
theorem PrsAt.imp {K : PySem.W.Frag} {H H' : Hp} (h : ∀ p xs, SqT K H p xs → SqT K H' p xs) : ∀ {us : List V} {xs : List (List Int × Mk)}, PrsAt K H us xs → PrsAt K H' us xs
  | [], [], _ => trivial
  | _ :: _, _ :: _, ⟨x, r⟩ => ⟨x.imp h, PrsAt.imp h r⟩
theorem PrsAt.app {K : PySem.W.Frag} {H : Hp} : ∀ {us ws : List V} {xs ys : List (List Int × Mk)}, PrsAt K H us xs → PrsAt K H ws ys → PrsAt K H (us ++ ws) (xs ++ ys)
  | [], _, [], _, _, y => y
  | _ :: _, _, _ :: _, _, ⟨x, r⟩, y => ⟨x, PrsAt.app r y⟩
theorem PrsAt.len {K : PySem.W.Frag} {H : Hp} : ∀ {us : List V} {xs : List (List Int × Mk)}, PrsAt K H us xs → us.length = xs.length
  | [], [], _ => rfl
  | _ :: _, _ :: _, ⟨_, r⟩ => by rw [List.length_cons, List.length_cons, r.len]
theorem PrsAt.get {K : PySem.W.Frag} {H : Hp} : ∀ {us : List V} {xs : List (List Int × Mk)} {i : Nat} {u : V}, PrsAt K H us xs → us[i]? = some u → ∃ x, xs[i]? = some x ∧ PrAt K H x u
  | [], [], _, _, _, h => by simp at h
  | v :: us, x :: xs, 0, u, ⟨y, r⟩, h => by
    have : v = u := Option.some.inj h
    subst this
    exact ⟨x, rfl, y⟩
  | v :: us, x :: xs, i + 1, u, ⟨y, r⟩, h => PrsAt.get (i := i) r h
def prD (x : List Int × Mk) : PyData := .tuple [.tuple (x.1.map PyData.int), mkD x.2]
theorem PrAt.dp {K : PySem.W.Frag} {H : Hp} {x : List Int × Mk} {u : V} (y : PrAt K H x u) : Dp K H u (prD x) := by
  obtain ⟨t, q, v, e, a, b, c⟩ := y
  subst e
  exact .tup a (.cons (.tup b (dp_ints _)) (.cons c.dp .nil))
theorem PrsAt.dps {K : PySem.W.Frag} {H : Hp} : ∀ {us : List V} {xs : List (List Int × Mk)}, PrsAt K H us xs → DpAll K H us (xs.map prD)
  | [], [], _ => .nil
  | _ :: _, _ :: _, ⟨x, r⟩ => .cons x.dp r.dps
def isOne (x : List Int × Mk) : Bool := match x.2 with
  | .one _ => true
  | .house _ _ => false
def toOne (x : List Int × Mk) : Option One := match x.2 with
  | .one o => some o
  | .house _ _ => none
def onesI (m : Ms) : List (List Int × Mk) := (stdI m [] 0).filter isOne
def aoI : Ms → List One
  | .nil => []
  | .one o r => o :: aoI r
  | .house _ m r => aoI m ++ aoI r
theorem ao_std : ∀ (d : Ms) (path : List Int) (i : Int), ((stdI d path i).filter isOne).filterMap toOne = aoI d
  | .nil, _, _ => rfl
  | .one o r, path, i => by
    show (((path ++ [i], Mk.one o) :: stdI r path (i + 1)).filter isOne).filterMap toOne = o :: aoI r
    rw [List.filter_cons_of_pos (by rfl), List.filterMap_cons_some (b := o) (by rfl), ao_std r]
  | .house nm m r, path, i => by
    show (((path ++ [i], Mk.house nm m) :: (stdI m (path ++ [i]) 0 ++ stdI r path (i + 1))).filter isOne).filterMap toOne = aoI m ++ aoI r
    rw [List.filter_cons_of_neg (by intro h; cases h), List.filter_append, List.filterMap_append, ao_std m, ao_std r]
theorem ones_map : ∀ {xs : List (List Int × Mk)}, (∀ x ∈ xs, isOne x = true) → (xs.filterMap toOne).length = xs.length
  | [], _ => rfl
  | (p, .one o) :: r, h => by
    rw [List.filterMap_cons_some (b := o) (by rfl), List.length_cons, List.length_cons, ones_map fun x hx => h x (List.mem_cons_of_mem _ hx)]
  | (p, .house nm m) :: r, h => by
    have := h (p, .house nm m) (by simp)
    cases this
theorem ones_len (m : Ms) : (onesI m).length = (aoI m).length := by
  have h := ones_map (xs := onesI m) fun x hx => (List.mem_filter.mp hx).2
  rw [← h]
  unfold onesI
  rw [ao_std]
def motesI (m : Ms) : Int := ((aoI m).map (·.motes)).sum
theorem ao_len : ∀ d : Ms, (aoI d).length ≤ d.cnt
  | .nil => Nat.le_refl _
  | .one _ r => by have := ao_len r; show (aoI r).length + 1 ≤ 1 + r.cnt; omega
  | .house _ m r => by have := ao_len m; have := ao_len r; show (aoI m ++ aoI r).length ≤ 1 + m.cnt + r.cnt; rw [List.length_append]; omega
theorem ao_all {P : One → Prop} : ∀ {d : Ms}, d.all P → ∀ o ∈ aoI d, P o
  | .nil, _, o, h => by cases h
  | .one _ r, ⟨a, b⟩, o, h => by
    rcases List.mem_cons.mp h with rfl | h
    · exact a
    · exact ao_all b o h
  | .house _ m r, ⟨a, b⟩, o, h => by
    rcases List.mem_append.mp h with h | h
    · exact ao_all a o h
    · exact ao_all b o h
theorem ao_app : ∀ d e : Ms, aoI (d.app e) = aoI d ++ aoI e
  | .nil, e => rfl
  | .one o r, e => by show o :: aoI (r.app e) = o :: (aoI r ++ aoI e); rw [ao_app r e]
  | .house _ m r, e => by show aoI m ++ aoI (r.app e) = aoI m ++ aoI r ++ aoI e; rw [ao_app r e, List.append_assoc]
/-! ### promises -/
def spStands (K : PySem.W.Frag) (n : Nat) : Sp := fun vs H Q _ => ∃ (p q : Addr) (xs : List V) (m : Ms) (path : List Int), vs = [.ref p, .ref q] ∧ SqT K H p xs ∧ MsAt K H m xs ∧ m.dep < n ∧ m.cnt ≤ 300 ∧ SqT K H q (path.map V.int) ∧ path.length + m.dep ≤ 100 ∧
  ∀ H' l us, Same H H' → H l = none → H' l = some (.lst us) → PrsAt K H' us (stdI m path 0) → Q (.ref l) H'
def spOnes (K : PySem.W.Frag) (n : Nat) : Sp := fun vs H Q _ => ∃ (p pm : Addr) (xs : List V) (many : Int) (m : Ms), vs = [.ref p] ∧ SqT K H p [.int many, .ref pm] ∧ SqT K H pm xs ∧ MsAt K H m xs ∧ m.dep < n ∧ m.cnt ≤ 300 ∧ m.dep ≤ 50 ∧
  ∀ H' t us, Same H H' → SqT K H' t us → PrsAt K H' us (onesI m) → Q (.ref t) H'
def spMotes (K : PySem.W.Frag) (n : Nat) : Sp := fun vs H Q _ => ∃ (p pm : Addr) (xs : List V) (many : Int) (m : Ms), vs = [.ref p] ∧ SqT K H p [.int many, .ref pm] ∧ SqT K H pm xs ∧ MsAt K H m xs ∧ m.dep < n ∧ m.cnt ≤ 300 ∧ m.dep ≤ 50 ∧
  ∀ H', Same H H' → Q (.int (motesI m)) H'
end NG

namespace NG
open PySem PySem.Spec PyProof.Rows L2
theorem reprK {X : Cx} (K : PySem.W.Frag) (hg : X.A.guards = some []) (hu : X.A.units + 64 < cLine) (h : X.K = K := by rfl) : CallR X (.builtin "repr") (rRepr K) := by
  subst h
  exact cr_repr hg hu
/-! ### what is shown of members -/
theorem shh_list {α : Type} {f : α → PyData} {w k : Nat} : ∀ {xs : List α}, (∀ x ∈ xs, Shh (f x) w k) → ShhAll (xs.map f) ((w + 1) * xs.length) k
  | [], _ => ShhAll.nil
  | n :: r, h => by
    have h1 := h n (by simp)
    have h2 := shh_list (xs := r) fun x hx => h x (List.mem_cons_of_mem _ hx)
    refine (ShhAll.cons h1 h2 (Nat.le_refl k) (Nat.le_refl k)).mono ?_ (Nat.le_refl k)
    rw [List.length_cons, Nat.mul_add]
    omega
theorem shh_ms {many dE dD cD : Nat} (hm : many ≤ 3) (hE : dE ≤ 8) (hD : dD ≤ 8) : ∀ {m : Ms}, m.all (OneOk many dE dD cD) → m.nms → ShhAll (msD m) ((700 + 3 * wgt dE + 180 * cD) * m.cnt) (22 + 2 * m.dep)
  | .nil, _, _ => ShhAll.nil
  | .one o r, a, n => by
    have h1 := shh_one hm hE hD a.1
    have h2 := shh_ms hm hE hD (m := r) a.2 n
    refine (ShhAll.cons h1 h2 (k := 22 + 2 * r.dep) (by omega) (Nat.le_refl _)).mono ?_ (Nat.le_refl _)
    show _ ≤ (700 + 3 * wgt dE + 180 * cD) * (1 + r.cnt)
    rw [Nat.mul_add, Nat.mul_one]
    omega
  | .house nm m r, a, n => by
    have h1 := (shh_ms hm hE hD (m := m) a.1 n.2.1).tup
    have h2 := shh_ms hm hE hD (m := r) a.2 n.2.2
    have s1 : Shh (.str "house") 10 0 := .str (by decide) (by decide)
    have s2 : Shh (.str nm) 10 0 := .str n.1.1 n.1.2
    have h3 := (ShhAll.cons s1 (.cons s2 (.cons h1 (ShhAll.nil (k := 0)) (k := 23 + 2 * m.dep) (by omega) (by omega)) (by omega) (Nat.le_refl _)) (by omega) (Nat.le_refl _)).tup
    refine (ShhAll.cons h3 h2 (k := 22 + 2 * max (m.dep + 1) r.dep) (by omega) (by omega)).mono ?_ (Nat.le_refl _)
    show _ ≤ (700 + 3 * wgt dE + 180 * cD) * (1 + m.cnt + r.cnt)
    rw [Nat.mul_add, Nat.mul_add, Nat.mul_one]
    omega
theorem std_path : ∀ (d : Ms) (path : List Int) (i : Int), 0 ≤ i → i + (d.cnt : Int) ≤ 300 → ∀ x ∈ stdI d path i, x.1.length ≤ path.length + d.dep + 1 ∧ ∀ e ∈ x.1, e ∈ path ∨ (0 ≤ e ∧ e ≤ 300)
  | .nil, _, _, _, _, x, h => by cases h
  | .one o r, path, i, i0, i1, x, h => by
    have i1 : i + ((1 + r.cnt : Nat) : Int) ≤ 300 := i1
    have h : x ∈ (path ++ [i], Mk.one o) :: stdI r path (i + 1) := h
    rcases List.mem_cons.mp h with rfl | h
    · refine ⟨by rw [List.length_append]; show path.length + 1 ≤ _; omega, fun e he => ?_⟩
      rcases List.mem_append.mp he with he | he
      · exact .inl he
      · rw [List.mem_singleton.mp he]
        exact .inr ⟨i0, by omega⟩
    · exact std_path r path (i + 1) (by omega) (by omega) x h
  | .house nm m r, path, i, i0, i1, x, h => by
    have i1 : i + ((1 + m.cnt + r.cnt : Nat) : Int) ≤ 300 := i1
    have h : x ∈ (path ++ [i], Mk.house nm m) :: (stdI m (path ++ [i]) 0 ++ stdI r path (i + 1)) := h
    show x.1.length ≤ path.length + max (m.dep + 1) r.dep + 1 ∧ _
    rcases List.mem_cons.mp h with rfl | h
    · refine ⟨by rw [List.length_append]; show path.length + 1 ≤ _; omega, fun e he => ?_⟩
      rcases List.mem_append.mp he with he | he
      · exact .inl he
      · rw [List.mem_singleton.mp he]
        exact .inr ⟨i0, by omega⟩
    · rcases List.mem_append.mp h with h | h
      · obtain ⟨h1, h2⟩ := std_path m (path ++ [i]) 0 (by decide) (by omega) x h
        refine ⟨by rw [List.length_append] at h1; have h1 : x.1.length ≤ path.length + 1 + m.dep + 1 := h1; omega, fun e he => ?_⟩
        rcases h2 e he with he | he
        · rcases List.mem_append.mp he with he | he
          · exact .inl he
          · rw [List.mem_singleton.mp he]
            exact .inr ⟨i0, by omega⟩
        · exact .inr he
      · obtain ⟨h1, h2⟩ := std_path r path (i + 1) (by omega) (by omega) x h
        exact ⟨by omega, h2⟩
theorem std_all {P : One → Prop} : ∀ (d : Ms) (path : List Int) (i : Int), d.all P → ∀ x ∈ stdI d path i, ∀ o, x.2 = .one o → P o
  | .nil, _, _, _, x, h, _, _ => by cases h
  | .one o r, path, i, a, x, h, o2, e => by
    have h : x ∈ (path ++ [i], Mk.one o) :: stdI r path (i + 1) := h
    rcases List.mem_cons.mp h with rfl | h
    · cases e
      exact a.1
    · exact std_all r path (i + 1) a.2 x h o2 e
  | .house nm m r, path, i, a, x, h, o2, e => by
    have h : x ∈ (path ++ [i], Mk.house nm m) :: (stdI m (path ++ [i]) 0 ++ stdI r path (i + 1)) := h
    rcases List.mem_cons.mp h with rfl | h
    · cases e
    · rcases List.mem_append.mp h with h | h
      · exact std_all m (path ++ [i]) 0 a.1 x h o2 e
      · exact std_all r path (i + 1) a.2 x h o2 e
theorem std_house : ∀ (d : Ms) (path : List Int) (i : Int), ∀ x ∈ stdI d path i, ∀ nm m2, x.2 = .house nm m2 → m2.dep + 1 ≤ d.dep ∧ m2.cnt + 1 ≤ d.cnt
  | .nil, _, _, x, h, _, _, _ => by cases h
  | .one o r, path, i, x, h, nm, m2, e => by
    have h : x ∈ (path ++ [i], Mk.one o) :: stdI r path (i + 1) := h
    rcases List.mem_cons.mp h with rfl | h
    · cases e
    · obtain ⟨h1, h2⟩ := std_house r path (i + 1) x h nm m2 e
      exact ⟨h1, by show m2.cnt + 1 ≤ 1 + r.cnt; omega⟩
  | .house nm m r, path, i, x, h, nm2, m2, e => by
    have h : x ∈ (path ++ [i], Mk.house nm m) :: (stdI m (path ++ [i]) 0 ++ stdI r path (i + 1)) := h
    show m2.dep + 1 ≤ max (m.dep + 1) r.dep ∧ m2.cnt + 1 ≤ 1 + m.cnt + r.cnt
    rcases List.mem_cons.mp h with rfl | h
    · cases e
      exact ⟨by omega, by omega⟩
    · rcases List.mem_append.mp h with h | h
      · obtain ⟨h1, h2⟩ := std_house m (path ++ [i]) 0 x h nm2 m2 e
        exact ⟨by omega, by omega⟩
      · obtain ⟨h1, h2⟩ := std_house r path (i + 1) x h nm2 m2 e
        exact ⟨by omega, by omega⟩
/-- a pair of a path and a one, as shown -/
theorem shh_pr {many dE dD cD : Nat} {m : Ms} (hm : many ≤ 3) (hE : dE ≤ 8) (hD : dD ≤ 8) (a : m.all (OneOk many dE dD cD)) (hc : m.cnt ≤ 300) (hd : m.dep ≤ 20) : ∀ x ∈ onesI m, ∃ o, x.2 = .one o ∧ OneOk many dE dD cD o ∧ Shh (prD x) (1000 + 3 * wgt dE + 180 * cD) 23 := fun x hx => by
  obtain ⟨h1, h2⟩ := List.mem_filter.mp hx
  obtain ⟨p1, p2⟩ := std_path m [] 0 (by decide) (by omega) x h1
  obtain ⟨pth, k⟩ := x
  cases k with
  | house nm m2 => cases h2
  | one o =>
    have ho := std_all m [] 0 a _ h1 o rfl
    refine ⟨o, rfl, ho, ?_⟩
    have hb : ∀ e ∈ pth, -1000 ≤ e ∧ e ≤ 1000 := fun e he => by
      rcases p2 e he with z | z
      · cases z
      · omega
    have s1 : Shh (.tuple (pth.map PyData.int)) (16 * pth.length) 1 := ((shw_smalls hb).tup).hh (lf_list fun e he => int60 (by have := hb e he; omega))
    have s2 := shh_one hm hE hD ho
    have pl : pth.length ≤ 21 := by
      have p1 : pth.length ≤ 0 + m.dep + 1 := p1
      omega
    exact ((ShhAll.cons s1 (.cons s2 (ShhAll.nil (k := 0)) (k := 22) (by omega) (by omega)) (by omega) (Nat.le_refl _)).tup).mono (by omega) (by omega)
theorem shh_ones {many dE dD cD : Nat} {m : Ms} (hm : many ≤ 3) (hE : dE ≤ 8) (hD : dD ≤ 8) (a : m.all (OneOk many dE dD cD)) (hc : m.cnt ≤ 300) (hd : m.dep ≤ 20) : Shh (.tuple ((onesI m).map prD)) ((1001 + 3 * wgt dE + 180 * cD) * m.cnt) 24 := by
  have h := shh_list (f := prD) (xs := onesI m) (w := 1000 + 3 * wgt dE + 180 * cD) (k := 23) fun x hx => by
    obtain ⟨o, _, _, h⟩ := shh_pr hm hE hD a hc hd x hx
    exact h
  refine h.tup.mono (Nat.mul_le_mul (by omega) ?_) (by decide)
  rw [ones_len]
  exact ao_len m
theorem motes_bnd {many dE dD cD : Nat} {m : Ms} (a : m.all (OneOk many dE dD cD)) (hc : m.cnt ≤ 300) : (motesI m).natAbs.log2 < 1920 := by
  have h0 : ∀ x ∈ (aoI m).map One.motes, 0 ≤ x ∧ x ≤ 3000000000000 := fun x hx => by
    obtain ⟨o, ho, rfl⟩ := List.mem_map.mp hx
    exact (ao_all a o ho).m1
  have h1 := sum_nonneg (ms := (aoI m).map One.motes) fun x hx => (h0 x hx).1
  have h2 := sum_le (B := 3000000000000) (ms := (aoI m).map One.motes) fun x hx => (h0 x hx).2
  rw [List.length_map] at h2
  have h3 := ao_len m
  have h4 : ((aoI m).length : Int) * 3000000000000 ≤ 300 * 3000000000000 := Int.mul_le_mul_of_nonneg_right (by omega) (by decide)
  have h5 : (motesI m).natAbs < 2 ^ 60 := by
    show (((aoI m).map One.motes).sum).natAbs < 2 ^ 60
    omega
  have := PySem.Flt.log2_lt_of (k := 60) (by decide) h5
  omega
theorem w3 : wgt 3 = 420 := rfl
theorem shh_house {many : Nat} {m : Ms} (hm : many ≤ 3) (a : m.all (OneOk many 3 2 10)) (n : m.nms) (hc : m.cnt ≤ 40) (hd : m.dep ≤ 6) : Shh (.tuple [.int (many : Int), .tuple (msD m)]) 200000 60 := by
  have h1 := (shh_ms hm (by decide) (by decide) a n).tup
  rw [w3] at h1
  have h2 : Shh (.int (many : Int)) 60 0 := .int (by omega)
  have h3 := (ShhAll.cons h2 (.cons h1 (ShhAll.nil (k := 0)) (k := 35) (by omega) (by omega)) (by omega) (Nat.le_refl _)).tup
  exact h3.mono (by omega) (by omega)
theorem shh_ones' {many : Nat} {m : Ms} (hm : many ≤ 3) (a : m.all (OneOk many 3 2 10)) (hc : m.cnt ≤ 40) (hd : m.dep ≤ 6) : Shh (.tuple ((onesI m).map prD)) 200000 60 := by
  have h := shh_ones hm (by decide) (by decide) a (by omega) (by omega)
  rw [w3] at h
  exact h.mono (by omega) (by omega)
theorem shh_one' {many : Nat} {o : One} (hm : many ≤ 3) (a : OneOk many 3 2 10 o) : Shh (oneD o) 200000 60 := by
  have h := shh_one hm (by decide) (by decide) a
  rw [w3] at h
  exact h.mono (by omega) (by omega)
def ofOnes : List One → Ms
  | [] => .nil
  | o :: r => .one o (ofOnes r)
theorem ofOnes_cnt : ∀ os, (ofOnes os).cnt = os.length
  | [] => rfl
  | o :: r => by show 1 + (ofOnes r).cnt = r.length + 1; rw [ofOnes_cnt r]; omega
theorem ofOnes_dep : ∀ os, (ofOnes os).dep = 0
  | [] => rfl
  | o :: r => ofOnes_dep r
theorem ofOnes_nms : ∀ os, (ofOnes os).nms
  | [] => trivial
  | o :: r => ofOnes_nms r
theorem ofOnes_all {P : One → Prop} : ∀ {os : List One}, (∀ o ∈ os, P o) → (ofOnes os).all P
  | [], _ => trivial
  | o :: r, h => ⟨h o (by simp), ofOnes_all fun x hx => h x (List.mem_cons_of_mem _ hx)⟩
end NG

namespace NG
open PySem PySem.Spec PyProof.Rows L2
/-! ### xs[i] read ahead of xs[i] += .. -/
theorem get_neg {X : Cx} : PGet X (fun o i H Q => ∃ (p : Addr) (xs : List V) (k : Int) (z : V), o = .ref p ∧ i = .int k ∧ k < 0 ∧ SqL X.K H p xs ∧ atI xs k = some z ∧ Q z H) := by
  intro pins s σ H o i ov iv Q I ro ri h
  obtain ⟨p, xs, k, z, rfl, rfl, hk, hq, he, q⟩ := h
  cases ro
  obtain ⟨t, rfl⟩ := ri
  obtain ⟨its, r, pl, hz⟩ := I.list hq
  obtain ⟨j, h1, h2, h3, h4, h5⟩ := atI_get he
  obtain ⟨w, ew, rw'⟩ := r.get h2
  have hl := r.length
  have hn := line63
  have hj : (k + (its.toArray.size : Int)).toNat = j := by
    rw [seqIndex_neg (by omega) h4] at h1
    rw [List.size_toArray, ← hl]
    exact Option.some.inj h1
  exact wpAny_getItem_list_neg pl.isList hk (by rw [List.size_toArray]; omega) (by omega) (by rw [hj]; simpa using ew) ⟨z, H, I, rw', q⟩
theorem slAK {X : Cx} (K : PySem.W.Frag) (h : X.K = K := by rfl) : SlR X (rSlA K) := by
  subst h
  exact sl_tupA
theorem catAK {X : Cx} (K : PySem.W.Frag) (h : X.K = K := by rfl) : OpR X (binaryOp .Add) (rCatA K) := by
  subst h
  exact op_catA
theorem pilK {X : Cx} (K : PySem.W.Frag) {tg l : Expr} {tl : TE} (hl : PE X l tl) (h : X.K = K := by rfl) : PI X tg l (iList K tl) := by
  subst h
  exact pi_list hl
theorem pitK {X : Cx} (K : PySem.W.Frag) {tg l : Expr} {tl : TE} (hl : PE X l tl) (h : X.K = K := by rfl) : PI X tg l (iTup K tl) := by
  subst h
  exact pi_tup hl
end NG

namespace NG
open PySem PySem.Spec PyProof.Rows L2
/-! ### zip of a tuple with a list -/
def ItTL (K : PySem.W.Frag) (a b : Addr) : It :=
  ⟨fun i H => ∃ (us ws : List V) (u v : V), SqT K H a us ∧ SqL K H b ws ∧ us[i]? = some u ∧ ws[i]? = some v,
   fun i H r H' => ∃ (T : Addr) (u v : V), r = .ref T ∧ H T = none ∧ H' = upd H T (.tup [u, v]) ∧ (∀ us, SqT K H a us → us[i]? = some u) ∧ ∀ ws, SqL K H b ws → ws[i]? = some v,
   fun i H => ∃ us ws : List V, SqT K H a us ∧ SqL K H b ws ∧ us.length = i ∧ ws.length = i⟩
theorem turn_TL {P : Program} {w : World} {K : PySem.W.Frag} {es : List Expr} {k : Nat} {ps : Pos} {a b z TI TO i1 i2 : Addr} (S : ZipSep2 z TI TO i1 i2 [i1, a] [i2, b]) (na : a ≠ i1) (nb : b ≠ i2) :
    Turn P w K (.Tuple es k ps) (ItTL K a b) [z, TI, TO, i1, i2] z (fun i h => IsZip h z TI TO .none ∧ IsTupOf2 h TI (.ref i1) (.ref i2) ∧ (∃ c d, IsTupOf2 h TO c d) ∧ h.IsTupleIter i1 a i ∧ h.IsListIter i2 b i) := by
  have five : ∀ {c : Addr}, c ∈ [z, TI, TO, i1, i2] → c = z ∨ c = TI ∨ c = TO ∨ c = i1 ∨ c = i2 := fun h => by simpa using h
  have lives : ∀ (i : Nat) (h : Heap), (IsZip h z TI TO .none ∧ IsTupOf2 h TI (.ref i1) (.ref i2) ∧ (∃ c d, IsTupOf2 h TO c d) ∧ h.IsTupleIter i1 a i ∧ h.IsListIter i2 b i) → ∀ c ∈ [z, TI, TO, i1, i2], ∃ o, h.get? c = some o ∧ ∀ v, o.data ≠ .cell v := fun i h st c hc => by
    obtain ⟨s1, s2, ⟨x, y, s3⟩, ⟨o4, s4, _, d4⟩, ⟨o5, s5, _, d5⟩⟩ := st
    rcases five hc with rfl | rfl | rfl | rfl | rfl
    · exact ⟨_, s1, fun v q => nomatch q⟩
    · exact ⟨_, s2, fun v q => nomatch q⟩
    · exact ⟨_, s3, fun v q => nomatch q⟩
    · exact ⟨o4, s4, fun v q => by rw [d4] at q; exact nomatch q⟩
    · exact ⟨o5, s5, fun v q => by rw [d5] at q; exact nomatch q⟩
  refine ⟨List.mem_cons_self, lives, fun i h h' st kp => ?_, fun X eP ew eK hc i pins s σ H E I hf st hg => ?_, fun X eP ew eK hc i pins s σ H E I hf st hg => ?_, fun A i s Q E st q => wpAny_pyIter_zip st.1 q⟩
  · obtain ⟨s1, s2, ⟨x, y, s3⟩, s4, s5⟩ := st
    exact ⟨kp _ (by simp) _ s1, kp _ (by simp) _ s2, ⟨x, y, kp _ (by simp) _ s3⟩, s4.at fun o q => kp _ (by simp) o q, s5.at fun o q => kp _ (by simp) o q⟩
  · cases eP
    cases ew
    cases eK
    have lv := lives i _ st
    obtain ⟨s1, s2, s3, s4, s5⟩ := st
    obtain ⟨us, ws, u, v, qa, qb, hu, hv⟩ := hg
    obtain ⟨la, ra, pa, _⟩ := I.tuple qa
    obtain ⟨lb, rb, pb, _⟩ := I.list qb
    obtain ⟨u', eu, ru⟩ := ra.get hu
    obtain ⟨v', ev', rv⟩ := rb.get hv
    have W := WalksT.zipD2 (A := X.A) S (Draws.tuple (A := X.A.in1) (I.ok.hd hc) i1 a na la.toArray) (Draws.list (prog := X.prog) (w := X.w) (A := X.A.in1) (I.ok.hd hc) i2 b nb lb.toArray)
    have il : i < la.length := (List.getElem?_eq_some_iff.mp eu).1
    have ir : i < lb.length := (List.getElem?_eq_some_iff.mp ev').1
    refine W.item i s _ E (by rw [List.size_toArray, List.size_toArray]; omega) ⟨s1, s2, s3, ⟨s4, pa⟩, ⟨s5, pb.isList⟩⟩ fun T vals h1 tk pv hT tT mid k1 => ⟨_, rfl, ?_⟩
    have apT := W.apart i T h1 mid
    refine W.go es k ps i T _ _ _ mid fun h2 st2 k2 => ?_
    obtain ⟨x1, x2, e1, e2, rfl⟩ := pv
    have f1 : x1 = u' := by
      have := e1.symm.trans (show la.toArray[i]? = some u' by simpa using eu)
      exact Option.some.inj this
    have f2 : x2 = v' := by
      have := e2.symm.trans (show lb.toArray[i]? = some v' by simpa using ev')
      exact Option.some.inj this
    subst f1 f2
    obtain ⟨z1, z2, z3, ⟨z4, _⟩, ⟨z5, _⟩⟩ := st2
    have tT2 : h2.IsTuple T #[x1, x2] := tT.at fun o e => k2 T o apT e
    have in5 : ∀ c, c ∉ [z, TI, TO, i1, i2] → c ∉ [z, TO, i1, i2] := fun c h m => h (by
      rcases (by simpa using m : c = z ∨ c = TO ∨ c = i1 ∨ c = i2) with rfl | rfl | rfl | rfl <;> simp)
    have J := I.turnedNew (h' := h2) (t' := tk) (ch := [z, TI, TO, i1, i2]) (T := T) (ob := .tup [u, v]) (fun c o hb' q => k2 c o (in5 c hb') (k1 c o (in5 c hb') q)) hf hT ⟨(by show 2 ≤ sizeLine; decide), [x1, x2], .cons ru (.cons rv .nil), tT2⟩
    refine ⟨.ref T, _, J, rfl, ⟨T, u, v, rfl, I.hok.fresh hT, rfl, fun l hl => ?_, fun l hl => ?_⟩, ⟨z1, z2, z3, z4, z5⟩, fun c hcm => ?_⟩
    · rw [I.tuple_inj hl qa]
      exact hu
    · rw [I.list_inj hl qb]
      exact hv
    · obtain ⟨o, ho, _⟩ := lv c hcm
      have lt := Heap.lt_size ho
      rw [upd_ne (Nat.ne_of_lt (Nat.lt_of_lt_of_le lt hT))]
      exact (hf c hcm).1
  · cases eP
    cases ew
    cases eK
    obtain ⟨s1, s2, s3, s4, s5⟩ := st
    obtain ⟨us, ws, qa, qb, e1, e2⟩ := hg
    obtain ⟨la, ra, pa, _⟩ := I.tuple qa
    obtain ⟨lb, rb, pb, _⟩ := I.list qb
    have W := WalksT.zipD2 (A := X.A) S (Draws.tuple (A := X.A.in1) (I.ok.hd hc) i1 a na la.toArray) (Draws.list (prog := X.prog) (w := X.w) (A := X.A.in1) (I.ok.hd hc) i2 b nb lb.toArray)
    have l1 := ra.length
    have l2 := rb.length
    have en : min la.toArray.size lb.toArray.size = i := by
      rw [List.size_toArray, List.size_toArray]
      omega
    rw [en] at W
    refine W.done s _ E ⟨s1, s2, s3, ⟨s4, pa⟩, ⟨s5, pb.isList⟩⟩ fun h1 tk k1 => ⟨rfl, ?_⟩
    exact I.turnedL (t' := tk) (ch := [z, TI, TO, i1, i2]) (fun c o hb' q => k1 c o (fun m => hb' (by rcases (by simpa using m : c = z ∨ c = TO ∨ c = i1 ∨ c = i2) with rfl | rfl | rfl | rfl <;> simp)) q) hf
def iZipTL (K : PySem.W.Frag) (ta : TA) : TI := fun σ H R => ta σ H fun vs H1 => ∃ a b us ws, vs = [.ref a, .ref b] ∧ SqT K H1 a us ∧ SqL K H1 b ws ∧ R (ItTL K a b) H1
theorem pi_zipTL {X : Cx} {e e2 : Expr} {ta : TA} {p pos tpos : Pos} {elts : List Expr} {kk : Nat} (hg : Gl X "zip") (hm : X.mg "zip" = none) (ha : PA X [e, e2] ta)
    (hs : starEach [e, e2] X.env = (false, eval e X.env) :: starEach [e2] X.env := by rfl) (hpl : (backTo pos (starEach [e2] X.env)).any (·.1) = false := by rfl) : PI X (.Tuple elts kk tpos) (.Call (.Name "zip" p) [e, e2] [] pos) (iZipTL X.K ta) := by
  refine ⟨fun pins s σ H R I h => Call_ (ld_blt I hg hm PyProof.Rows.boot_zip (PyProof.Rows.callWith_type1 (thn (ha.run pos pins s σ H _ I h) fun us s1 ⟨vs, H1, I1, r1, q1⟩ => ?_) hs hpl))⟩
  obtain ⟨a, b, ul, wl, rfl, qa, qb, q⟩ := q1
  obtain ⟨v1, v2, rfl, t1, t2⟩ := vals2 r1
  cases t1
  cases t2
  obtain ⟨la, ra, pa, _⟩ := I1.tuple qa
  obtain ⟨lb, rb, pb, _⟩ := I1.list qb
  obtain ⟨ob, hob, _⟩ := id pa
  have lt1 : a < s1.heap.objs.size := Heap.lt_size hob
  have lt2 : b < s1.heap.objs.size := pb.lt
  refine zip_begins2 (begins_tuple a la.toArray) (begins_list b lb.toArray) pa pb.isList fun h' hz hTI hTO g1 g2 hsz hk => wpAny_pyIter_zip hz ?_
  have J : Inv X pins σ H1 { s1 with heap := h' } := I1.kept (t' := s1.toks) hk
  have S := zip_sep2 (N := s1.heap.objs.size) (fp1 := [a]) (fp2 := [b]) (fun c hc => by rw [List.mem_singleton.mp hc]; exact lt1) (fun c hc => by rw [List.mem_singleton.mp hc]; exact lt2)
  refine ⟨_, _, _, _, H1, rfl, J, turn_TL S (Nat.ne_of_lt lt1) (Nat.ne_of_lt (Nat.lt_succ_of_lt lt2)), ⟨hz, hTI, ⟨_, _, hTO⟩, ⟨_, g1, rfl, rfl⟩, ⟨_, g2, rfl, rfl⟩⟩, fun c hcm => ?_, q⟩
  have le : s1.heap.objs.size ≤ c := by
    rcases (by simpa using hcm : c = s1.heap.objs.size + 4 ∨ c = s1.heap.objs.size + 2 ∨ c = s1.heap.objs.size + 3 ∨ c = s1.heap.objs.size ∨ c = s1.heap.objs.size + 1) with e | e | e | e | e <;> (rw [e]; first | exact Nat.le_refl _ | exact Nat.le_add_right _ _)
  exact I1.fpOk le (I1.hok.fresh le)
theorem walk_TL {K : PySem.W.Frag} {a b : Addr} {us ws : List V} {n : Nat} (hx : us.length = n) (hy : ws.length = n) : Walk (ItTL K a b) n (fun H => SqT K H a us ∧ SqL K H b ws) (YPair (fun i => us[i]?) (fun i => ws[i]?)) := by
  refine ⟨fun i H hi q => ⟨us, ws, us[i]'(by omega), ws[i]'(by omega), q.1, q.2, List.getElem?_eq_getElem _, List.getElem?_eq_getElem _⟩, fun H q => ⟨us, ws, q.1, q.2, hx, hy⟩, fun i H v H' hi q y => ?_⟩
  obtain ⟨T, x, z, h1, h2, h3, h4, h5⟩ := y
  exact ⟨T, x, z, h1, h2, h3, h4 us q.1, h5 ws q.2⟩
theorem tupK {X : Cx} (K : PySem.W.Frag) {a : Expr} {ta : TE} {p pos : Pos} (hg : Gl X "tuple") (hm : X.mg "tuple" = none) (ha : PE X a ta) (na : starEach [a] X.env = (false, eval a X.env) :: starEach [] X.env := by rfl) (h : X.K = K := by rfl) :
    PE X (.Call (.Name "tuple" p) [a] [] pos) (tThen ta (kTup K)) := by
  subst h
  exact pe_tupleOf hg hm ha na
/-! ### max of a tuple of ints -/
def rMaxT (K : PySem.W.Frag) : List V → Hp → VK → Prop := fun vs H Q => ∃ (a : Addr) (n : Int) (ns : List Int), vs = [V.ref a] ∧ SqT K H a ((n :: ns).map V.int) ∧ Q (.int (ns.foldl max n)) H
theorem depth_ints : ∀ ns : List Int, PyData.depthAll (ns.map PyData.int) = 0
  | [] => rfl
  | n :: r => by
    rw [List.map_cons]
    show max (PyData.depth (.int n)) (PyData.depthAll (r.map PyData.int)) = 0
    rw [depth_ints r]
    rfl
theorem cr_maxT {X : Cx} (hc : X.calm = true) (hu : X.A.units + 64 < cLine) : CallR X (.builtin "max") (rMaxT X.K) := by
  intro pins s σ H vs us Q I r h
  obtain ⟨a, n, ns, rfl, hs, q⟩ := h
  obtain ⟨its, rv, p, _⟩ := I.tuple hs
  rw [Vals.ref1 r]
  obtain ⟨as, hr⟩ := Dp.readsAll I ((n :: ns).map PyData.int) _ its (dp_ints (n :: ns)) rv
  rw [List.map_cons] at hr
  have al : PySem.W.AlikeAll (PyData.int n :: ns.map PyData.int) := ⟨fun x hx y hy => by
    rw [← List.map_cons (f := PyData.int)] at hx hy
    obtain ⟨i, _, rfl⟩ := List.mem_map.mp hx
    obtain ⟨j, _, rfl⟩ := List.mem_map.mp hy
    rfl, fun x hx => by
    rw [← List.map_cons (f := PyData.int)] at hx
    obtain ⟨i, _, rfl⟩ := List.mem_map.mp hx
    exact fun e => nomatch e⟩
  refine PySem.W.max_tuple_data (I.ok.hd hc) p (by simpa using hr) al (by rw [← List.map_cons (f := PyData.int), depth_ints]; omega) fun i v h' tk bs _ rd hk => ?_
  rw [PySem.W.maxD_ints] at rd
  cases rd
  exact ⟨.int _, H, I.kept hk, ⟨_, rfl⟩, q⟩
theorem foldl_max_spec : ∀ (ns : List Int) (n : Int), (n ≤ ns.foldl max n ∧ ∀ x ∈ ns, x ≤ ns.foldl max n) ∧ (ns.foldl max n = n ∨ ns.foldl max n ∈ ns)
  | [], n => ⟨⟨Int.le_refl _, fun _ h => absurd h (by simp)⟩, .inl rfl⟩
  | k :: r, n => by
    rw [List.foldl_cons]
    obtain ⟨⟨h1, h2⟩, h3⟩ := foldl_max_spec r (max n k)
    have e1 : n ≤ max n k := Int.le_max_left ..
    have e2 : k ≤ max n k := Int.le_max_right ..
    refine ⟨⟨Int.le_trans e1 h1, fun x hx => ?_⟩, ?_⟩
    · rcases List.mem_cons.mp hx with rfl | hx
      · exact Int.le_trans e2 h1
      · exact h2 x hx
    · rcases h3 with h3 | h3
      · rw [h3]
        by_cases c : n ≤ k
        · rw [Int.max_eq_right c]
          exact .inr (by simp)
        · rw [Int.max_eq_left (by omega)]
          exact .inl rfl
      · exact .inr (List.mem_cons_of_mem _ h3)
/-! ### gains -/
def dotI (ss ps : List Int) : Int := (List.zipWith (· * ·) ss ps).sum
def gainI (ss ps : List Int) (p : Int) : Int := ss.sum * p - dotI ss ps
def rightI (ss ps : List Int) (g : Int) : Bool := (List.zipWith (fun s p => (s == 0 || p == g)) ss ps).all id
theorem dot_lin (c d : Int) : ∀ ss ps : List Int, ss.length = ps.length → dotI ss (ps.map fun p => c * p - d) = c * dotI ss ps - d * ss.sum
  | [], [], _ => by simp [dotI]
  | s :: ss, p :: ps, h => by
    have ih := dot_lin c d ss ps (by simpa using h)
    unfold dotI at ih ⊢
    rw [List.map_cons, List.zipWith_cons_cons, List.zipWith_cons_cons, List.sum_cons, List.sum_cons, List.sum_cons, ih, Int.mul_add, Int.mul_add]
    have e1 : s * (c * p - d) = c * (s * p) - d * s := by rw [Int.mul_sub, Int.mul_left_comm, Int.mul_comm s d]
    omega
theorem gains_nought (ss ps : List Int) (h : ss.length = ps.length) : dotI ss (ps.map (gainI ss ps)) = 0 := by
  show dotI ss (ps.map fun p => ss.sum * p - dotI ss ps) = 0
  rw [dot_lin _ _ _ _ h, Int.mul_comm]
  omega
theorem dot_gap (g : Int) : ∀ ss ps : List Int, ss.length = ps.length → (∀ s ∈ ss, 0 ≤ s) → (∀ p ∈ ps, p ≤ g) → dotI ss ps ≤ ss.sum * g ∧ (dotI ss ps = ss.sum * g ↔ rightI ss ps g = true)
  | [], [], _, _, _ => by simp [dotI, rightI]
  | s :: ss, p :: ps, h, hs, hp => by
    obtain ⟨i1, i2⟩ := dot_gap g ss ps (by simpa using h) (fun x hx => hs x (List.mem_cons_of_mem _ hx)) (fun x hx => hp x (List.mem_cons_of_mem _ hx))
    have s0 := hs s (by simp)
    have p0 := hp p (by simp)
    have e : (List.zipWith (fun x1 x2 => x1 * x2) (s :: ss) (p :: ps)).sum = s * p + dotI ss ps := by
      rw [List.zipWith_cons_cons, List.sum_cons]
      rfl
    have er : rightI (s :: ss) (p :: ps) g = ((s == 0 || p == g) && rightI ss ps g) := rfl
    have m : s * p ≤ s * g := Int.mul_le_mul_of_nonneg_left p0 s0
    have es : (s :: ss).sum * g = s * g + ss.sum * g := by rw [List.sum_cons, Int.add_mul]
    have ed : dotI (s :: ss) (p :: ps) = s * p + dotI ss ps := e
    rw [es, ed, er]
    refine ⟨by omega, ?_⟩
    have eq : s * p = s * g ↔ (s == 0 || p == g) = true := by
      rw [Bool.or_eq_true, beq_iff_eq, beq_iff_eq]
      constructor
      · intro q
        by_cases z : s = 0
        · exact .inl z
        · exact .inr (Int.eq_of_mul_eq_mul_left z q)
      · rintro (rfl | rfl)
        · rw [Int.zero_mul, Int.zero_mul]
        · rfl
    rw [Bool.and_eq_true, ← i2, ← eq]
    omega
/-- who is right: just where the greatest gain is at most 0 -/
theorem right_iff {ss ps : List Int} {g m : Int} (h : ss.length = ps.length) (hs : ∀ s ∈ ss, 0 ≤ s) (h0 : 0 < ss.sum) (hg : g ∈ ps) (hp : ∀ p ∈ ps, p ≤ g) (hm : m ∈ ps.map (gainI ss ps)) (hx : ∀ y ∈ ps.map (gainI ss ps), y ≤ m) : rightI ss ps g = decide (m ≤ 0) := by
  obtain ⟨g1, g2⟩ := dot_gap g ss ps h hs hp
  obtain ⟨p, hpm, rfl⟩ := List.mem_map.mp hm
  have k1 := hx (gainI ss ps g) (List.mem_map_of_mem hg)
  have k2 : ss.sum * p ≤ ss.sum * g := Int.mul_le_mul_of_nonneg_left (hp p hpm) (Int.le_of_lt h0)
  unfold gainI at k1 ⊢
  rw [Bool.eq_iff_iff, ← g2, decide_eq_true_iff]
  constructor
  · intro e
    omega
  · intro e
    omega
end NG

namespace NG
open PySem PySem.Spec PyProof.Rows L2
/-! ### rough numbers -/
def bl (n : Nat) : Nat := if n = 0 then 0 else n.log2 + 1
theorem bl_eq (n : Nat) : Builtin.Int.intBits (n : Int) = bl n := by
  unfold Builtin.Int.intBits bl
  rw [Int.natAbs_natCast]
  by_cases h : n = 0
  · subst h
    rfl
  · rw [if_neg h, if_neg (by simpa using h)]
theorem lt_bl (n : Nat) : n < 2 ^ bl n := by
  unfold bl
  by_cases h : n = 0
  · subst h
    decide
  · rw [if_neg h]
    exact Nat.lt_log2_self
theorem bl_le {n k : Nat} (h : n < 2 ^ k) : bl n ≤ k := by
  unfold bl
  by_cases h0 : n = 0
  · rw [if_pos h0]
    exact Nat.zero_le _
  · rw [if_neg h0]
    exact (Nat.log2_lt h0).mpr h
theorem pow_bl {n : Nat} (h : n ≠ 0) : 2 ^ (bl n - 1) ≤ n ∧ 1 ≤ bl n := by
  unfold bl
  rw [if_neg h]
  exact ⟨Nat.log2_self_le h, by omega⟩
def cd (h s : Nat) : Nat := (h + 2 ^ s - 1) / 2 ^ s
theorem cd_cast (h s : Nat) : -(-(h : Int) / 2 ^ s) = ((cd h s : Nat) : Int) := by
  have hp : 0 < 2 ^ s := Nat.pow_pos (by decide)
  have e : (2 : Int) ^ s = ((2 ^ s : Nat) : Int) := by push_cast; rfl
  rw [e]
  unfold cd
  generalize 2 ^ s = p at hp
  have d1 := Nat.div_add_mod (h + p - 1) p
  have d2 := Nat.mod_lt (h + p - 1) hp
  generalize (h + p - 1) / p = q at *
  generalize (h + p - 1) % p = r at *
  have key : -(h : Int) / (p : Int) = -(q : Int) := by
    have a1 : -(q : Int) ≤ -(h : Int) / (p : Int) := by
      rw [Int.le_ediv_iff_mul_le (by omega)]
      have : (h : Int) ≤ (q : Int) * (p : Int) := by
        have z : h ≤ p * q := by omega
        have z2 : ((p * q : Nat) : Int) = (q : Int) * (p : Int) := by push_cast; exact Int.mul_comm _ _
        omega
      rw [Int.neg_mul]
      omega
    have a2 : -(h : Int) / (p : Int) < -(q : Int) + 1 := by
      rw [Int.ediv_lt_iff_lt_mul (by omega), Int.add_mul, Int.neg_mul, Int.one_mul]
      have z2 : ((p * q : Nat) : Int) = (q : Int) * (p : Int) := by push_cast; exact Int.mul_comm _ _
      omega
    omega
  rw [key]
  omega
abbrev Rg := Nat × Nat × Nat
structure Rgh (L bits x : Nat) (r : Rg) : Prop where
  lo : r.1 * 2 ^ r.2.2 ≤ x
  hi : x ≤ r.2.1 * 2 ^ r.2.2
  le : r.1 ≤ r.2.1
  sz : r.2.1 ≤ 2 ^ bits
  ex : L ≤ bits → r = (x, x, 0)
def trimR (lo hi sh bits : Nat) : Rg := (lo / 2 ^ (bl hi - bits), cd hi (bl hi - bits), sh + (bl hi - bits))
theorem trim_ok {L bits x lo hi sh : Nat} (h1 : lo * 2 ^ sh ≤ x) (h2 : x ≤ hi * 2 ^ sh) (h3 : lo ≤ hi) (hx : x < 2 ^ L) (ex : L ≤ bits → lo = x ∧ hi = x ∧ sh = 0) : Rgh L bits x (trimR lo hi sh bits) := by
  unfold trimR
  have hb := lt_bl hi
  generalize hs : bl hi - bits = s
  have hp : 0 < 2 ^ s := Nat.pow_pos (by decide)
  have d1 := Nat.div_add_mod (hi + 2 ^ s - 1) (2 ^ s)
  have d2 := Nat.mod_lt (hi + 2 ^ s - 1) hp
  have hc : hi ≤ cd hi s * 2 ^ s := by
    unfold cd
    rw [Nat.mul_comm]
    omega
  refine ⟨?_, ?_, ?_, ?_, ?_⟩
  · show lo / 2 ^ s * 2 ^ (sh + s) ≤ x
    rw [Nat.add_comm, Nat.pow_add, ← Nat.mul_assoc]
    exact Nat.le_trans (Nat.mul_le_mul_right _ (Nat.div_mul_le_self lo (2 ^ s))) h1
  · show x ≤ cd hi s * 2 ^ (sh + s)
    rw [Nat.add_comm, Nat.pow_add, ← Nat.mul_assoc]
    exact Nat.le_trans h2 (Nat.mul_le_mul_right _ hc)
  · show lo / 2 ^ s ≤ cd hi s
    exact Nat.div_le_div_right (by omega)
  · show cd hi s ≤ 2 ^ bits
    have : hi < 2 ^ bits * 2 ^ s := by
      rw [← Nat.pow_add]
      exact Nat.lt_of_lt_of_le hb (Nat.pow_le_pow_right (by decide) (by omega))
    unfold cd
    rw [← Nat.lt_succ_iff, Nat.div_lt_iff_lt_mul hp, Nat.succ_mul]
    omega
  · intro hL
    obtain ⟨rfl, rfl, rfl⟩ := ex hL
    have := bl_le hx
    have e0 : s = 0 := by omega
    subst e0
    unfold cd
    simp
def timesR (a b : Rg) (bits : Nat) : Rg := trimR (a.1 * b.1) (a.2.1 * b.2.1) (a.2.2 + b.2.2) bits
theorem times_ok {L bits x y : Nat} {a b : Rg} (ha : Rgh L bits x a) (hb : Rgh L bits y b) (h : x * y < 2 ^ L) : Rgh L bits (x * y) (timesR a b bits) := by
  refine trim_ok ?_ ?_ (Nat.mul_le_mul ha.le hb.le) h ?_
  · rw [Nat.pow_add, show a.1 * b.1 * (2 ^ a.2.2 * 2 ^ b.2.2) = (a.1 * 2 ^ a.2.2) * (b.1 * 2 ^ b.2.2) by grind]
    exact Nat.mul_le_mul ha.lo hb.lo
  · rw [Nat.pow_add, show a.2.1 * b.2.1 * (2 ^ a.2.2 * 2 ^ b.2.2) = (a.2.1 * 2 ^ a.2.2) * (b.2.1 * 2 ^ b.2.2) by grind]
    exact Nat.mul_le_mul ha.hi hb.hi
  · intro hL
    rw [ha.ex hL, hb.ex hL]
    exact ⟨rfl, rfl, rfl⟩
theorem one_ok {L bits : Nat} : Rgh L bits 1 (1, 1, 0) := ⟨by decide, by decide, by decide, Nat.pow_pos (by decide), fun _ => rfl⟩
theorem plain_ok {L bits x : Nat} (h : x < 2 ^ L) : Rgh L bits x (trimR x x 0 bits) := trim_ok (by simp) (by simp) (Nat.le_refl _) h fun _ => ⟨rfl, rfl, rfl⟩
/-- n * 2 ^ s > m * 2 ^ t -/
def abv (n s m t : Nat) : Bool := decide (m * 2 ^ t < n * 2 ^ s)
theorem abv_zero {n s m t : Nat} (h : n = 0 ∨ m = 0) : abv n s m t = decide (m < n) := by
  unfold abv
  have hs : 0 < 2 ^ s := Nat.pow_pos (by decide)
  rcases h with rfl | rfl
  · rw [decide_eq_false (by omega), decide_eq_false (by omega)]
  · by_cases hn : n = 0
    · subst hn
      rw [decide_eq_false (by omega), decide_eq_false (by omega)]
    · have : 0 < n * 2 ^ s := Nat.mul_pos (by omega) hs
      rw [decide_eq_true (by omega), decide_eq_true (by omega)]
theorem abv_size {n s m t : Nat} (hn : n ≠ 0) (hm : m ≠ 0) (h : bl n + s ≠ bl m + t) : abv n s m t = decide (bl m + t < bl n + s) := by
  have key : ∀ {n s m t : Nat}, n ≠ 0 → bl m + t < bl n + s → m * 2 ^ t < n * 2 ^ s := fun {n s m t} hn h => by
    have h1 := lt_bl m
    obtain ⟨h2, h3⟩ := pow_bl hn
    have a1 : m * 2 ^ t < 2 ^ (bl m + t) := by
      rw [Nat.pow_add]
      exact (Nat.mul_lt_mul_right (Nat.pow_pos (by decide))).mpr h1
    have a2 : 2 ^ (bl n - 1 + s) ≤ n * 2 ^ s := by
      rw [Nat.pow_add]
      exact Nat.mul_le_mul_right _ h2
    have a3 : (2 : Nat) ^ (bl m + t) ≤ 2 ^ (bl n - 1 + s) := Nat.pow_le_pow_right (by decide) (by omega)
    omega
  unfold abv
  by_cases c : bl m + t < bl n + s
  · rw [decide_eq_true (key hn c), decide_eq_true c]
  · have := key (n := m) (s := t) (m := n) (t := s) hm (by omega)
    rw [decide_eq_false (by omega), decide_eq_false c]
theorem abv_shift {n s m t : Nat} : abv n s m t = decide (m * 2 ^ (t - min s t) < n * 2 ^ (s - min s t)) := by
  unfold abv
  have e : ∀ a k l : Nat, l ≤ k → a * 2 ^ k = a * 2 ^ (k - l) * 2 ^ l := fun a k l h => by
    rw [Nat.mul_assoc, ← Nat.pow_add, Nat.sub_add_cancel h]
  rw [e m t (min s t) (Nat.min_le_right _ _), e n s (min s t) (Nat.min_le_left _ _)]
  have hp : 0 < 2 ^ min s t := Nat.pow_pos (by decide)
  rw [decide_eq_decide]
  exact Nat.mul_lt_mul_right hp
def cmpR (a b : Rg) : Int := if abv a.1 a.2.2 b.2.1 b.2.2 = true then 1 else if abv a.2.1 a.2.2 b.1 b.2.2 = true then 0 else -1
theorem cmp_ok {L bits x y : Nat} {a b : Rg} (ha : Rgh L bits x a) (hb : Rgh L bits y b) : (cmpR a b = 1 ∧ y < x) ∨ (cmpR a b = -1 ∧ x ≤ y) ∨ (cmpR a b = 0 ∧ bits < L) := by
  unfold cmpR
  by_cases c : abv a.1 a.2.2 b.2.1 b.2.2 = true
  · rw [if_pos c]
    unfold abv at c
    have c := of_decide_eq_true c
    have := ha.lo
    have := hb.hi
    exact .inl ⟨rfl, by omega⟩
  · rw [if_neg c]
    by_cases d : abv a.2.1 a.2.2 b.1 b.2.2 = true
    · rw [if_pos d]
      refine .inr (.inr ⟨rfl, ?_⟩)
      by_cases hL : L ≤ bits
      · rw [ha.ex hL, hb.ex hL] at c d
        exact absurd d c
      · omega
    · rw [if_neg d]
      unfold abv at d
      have d : ¬ (b.1 * 2 ^ b.2.2 < a.2.1 * 2 ^ a.2.2) := fun z => d (decide_eq_true z)
      have := ha.hi
      have := hb.lo
      exact .inr (.inl ⟨rfl, by omega⟩)

/-! ### the greatest off -/
def tkN (far days w j : Nat) : Nat := (500 + far) ^ j * (500 - far) ^ (2 * days - j) * (w * w)
def gvN (days held : Nat) : Nat := 500 ^ (2 * days) * (held * held)
def bornN (far days w held j : Nat) : Bool := decide (tkN far days w j ≤ gvN days held)
theorem tk_up {far days w j : Nat} (h : j < 2 * days) : tkN far days w j ≤ tkN far days w (j + 1) := by
  unfold tkN
  refine Nat.mul_le_mul_right _ ?_
  rw [show 2 * days - j = 2 * days - (j + 1) + 1 by omega, Nat.pow_succ, Nat.pow_succ]
  rw [show (500 + far) ^ j * ((500 - far) ^ (2 * days - (j + 1)) * (500 - far)) = (500 + far) ^ j * (500 - far) * (500 - far) ^ (2 * days - (j + 1)) by grind]
  exact Nat.mul_le_mul_right _ (Nat.mul_le_mul_left _ (by omega))
theorem tk_mono {far days w i : Nat} : ∀ {k : Nat}, i + k ≤ 2 * days → tkN far days w i ≤ tkN far days w (i + k)
  | 0, _ => Nat.le_refl _
  | k + 1, h => Nat.le_trans (tk_mono (k := k) (by omega)) (tk_up (by omega))
theorem born_down {far days w held i j : Nat} (hij : i ≤ j) (hj : j ≤ 2 * days) (h : bornN far days w held j = true) : bornN far days w held i = true := by
  unfold bornN at *
  have h := of_decide_eq_true h
  have := tk_mono (far := far) (days := days) (w := w) (i := i) (k := j - i) (by omega)
  rw [show i + (j - i) = j by omega] at this
  exact decide_eq_true (by omega)
def lastJ (P : Nat → Bool) : Nat → Option Nat
  | 0 => none
  | n + 1 => if P n = true then some n else lastJ P n
theorem lastJ_none {P : Nat → Bool} : ∀ {n : Nat}, (∀ j, j < n → P j = false) → lastJ P n = none
  | 0, _ => rfl
  | n + 1, h => by
    unfold lastJ
    rw [if_neg (by rw [h n (by omega)]; exact Bool.false_ne_true)]
    exact lastJ_none fun j hj => h j (by omega)
theorem lastJ_some {P : Nat → Bool} {l : Nat} (hl : P l = true) : ∀ {n : Nat}, l < n → (∀ j, l < j → j < n → P j = false) → lastJ P n = some l
  | 0, h, _ => by omega
  | n + 1, h, hj => by
    unfold lastJ
    by_cases e : l = n
    · subst e
      rw [if_pos hl]
    · rw [if_neg (by rw [hj n (by omega) (by omega)]; exact Bool.false_ne_true)]
      exact lastJ_some hl (by omega) fun j h1 h2 => hj j h1 (by omega)
def moI (far days w held : Nat) : Option Nat := lastJ (bornN far days w held) (2 * days + 1)
def moV (days : Nat) : Option Nat → V
  | none => .non
  | some j => .int ((j : Int) - (days : Int))
theorem mo_none {far days w held : Nat} (h : bornN far days w held 0 = false) : moI far days w held = none := lastJ_none fun j hj => by
  by_cases c : bornN far days w held j = true
  · rw [born_down (Nat.zero_le j) (by omega) c] at h
    cases h
  · simpa using c
theorem mo_some {far days w held l : Nat} (hl : l ≤ 2 * days) (h : bornN far days w held l = true) (hn : l = 2 * days ∨ bornN far days w held (l + 1) = false) : moI far days w held = some l := by
  refine lastJ_some h (by omega) fun j h1 h2 => ?_
  rcases hn with e | e
  · omega
  · by_cases c : bornN far days w held j = true
    · rw [born_down (i := l + 1) (by omega) (by omega) c] at e
      cases e
    · simpa using c
/-! ### sizes -/
theorem pow_size {b e k : Nat} (hb : b < 2 ^ k) : b ^ e ≤ 2 ^ (k * e) := by
  rw [Nat.pow_mul]
  exact Nat.pow_le_pow_left (Nat.le_of_lt hb) e
def LL : Nat := 25000
theorem pw_size {b e : Nat} (hb : b < 1024) (he : e ≤ 2000) : b ^ e ≤ 2 ^ 20000 := by
  have h := pow_size (b := b) (e := e) (k := 10) hb
  exact Nat.le_trans h (Nat.pow_le_pow_right (by decide) (by omega))
theorem size_lt {a b : Nat} (h : a < b) : (2 : Nat) ^ a < 2 ^ b := Nat.pow_lt_pow_right (by decide) h
theorem pw_LL {b e : Nat} (hb : b < 1024) (he : e ≤ 2000) : b ^ e < 2 ^ LL := Nat.lt_of_le_of_lt (pw_size hb he) (size_lt (by decide))

/-! ### on the heap -/
def RgAt (K : PySem.W.Frag) (H : Hp) (r : Rg) (v : V) : Prop := ∃ p, v = .ref p ∧ SqT K H p [.int (r.1 : Int), .int (r.2.1 : Int), .int (r.2.2 : Int)]
theorem RgAt.same {K : PySem.W.Frag} {H H' : Hp} {x : Rg} {v : V} (r : RgAt K H x v) (s : Same H H') : RgAt K H' x v := by
  obtain ⟨p, e, q⟩ := r
  exact ⟨p, e, same_sqt s q⟩
def spTrim (K : PySem.W.Frag) : Sp := fun vs H Q _ => ∃ lo hi sh bits : Nat, vs = [.int (lo : Int), .int (hi : Int), .int (sh : Int), .int (bits : Int)] ∧ ∀ H' v, Same H H' → RgAt K H' (trimR lo hi sh bits) v → Q v H'
def spTimes (K : PySem.W.Frag) : Sp := fun vs H Q _ => ∃ (u v : V) (a b : Rg) (bits : Nat), vs = [u, v, .int (bits : Int)] ∧ RgAt K H a u ∧ RgAt K H b v ∧ bits ≤ 200000 ∧ a.1 ≤ a.2.1 ∧ b.1 ≤ b.2.1 ∧ a.2.1 ≤ 2 ^ bits ∧ b.2.1 ≤ 2 ^ bits ∧ ∀ H' v, Same H H' → RgAt K H' (timesR a b bits) v → Q v H'
def spRPower (K : PySem.W.Frag) : Sp := fun vs H Q _ => ∃ b e bits : Nat, vs = [.int (b : Int), .int (e : Int), .int (bits : Int)] ∧ b < 1024 ∧ e ≤ 1000 ∧ bits ≤ 200000 ∧ ∀ H' v r, Same H H' → RgAt K H' r v → Rgh LL bits (b ^ e) r → Q v H'
def spAbove : Sp := fun vs H Q _ => ∃ n s m t : Nat, vs = [.int (n : Int), .int (s : Int), .int (m : Int), .int (t : Int)] ∧ n < 2 ^ 300000 ∧ m < 2 ^ 300000 ∧ Q (.bl (abv n s m t)) H
def spCompared (K : PySem.W.Frag) : Sp := fun vs H Q _ => ∃ (u v : V) (a b : Rg), vs = [u, v] ∧ RgAt K H a u ∧ RgAt K H b v ∧ a.1 ≤ a.2.1 ∧ b.1 ≤ b.2.1 ∧ a.2.1 < 2 ^ 300000 ∧ b.2.1 < 2 ^ 300000 ∧ Q (.int (cmpR a b)) H
structure OffOk (far days w held : Nat) : Prop where
  f : far ≤ 500
  d : days ≤ 500
  w : w < 2 ^ 64
  h : held < 2 ^ 64
def spWithin (K : PySem.W.Frag) : Sp := fun vs H Q _ => ∃ far days w held j bits : Nat, vs = [.int (far : Int), .int (days : Int), .int (w : Int), .int (held : Int), .int ((j : Int) - (days : Int)), .int (bits : Int)] ∧ OffOk far days w held ∧ j ≤ 2 * days ∧ bits ≤ 200000 ∧
  ∀ H' c, Same H H' → ((c = 1 ∧ bornN far days w held j = false) ∨ (c = -1 ∧ bornN far days w held j = true) ∨ (c = 0 ∧ bits < LL)) → Q (.int c) H'
def spSureIn (K : PySem.W.Frag) : Sp := fun vs H Q _ => ∃ far days w held j : Nat, vs = [.int (far : Int), .int (days : Int), .int (w : Int), .int (held : Int), .int ((j : Int) - (days : Int))] ∧ OffOk far days w held ∧ j ≤ 2 * days ∧
  ∀ H', Same H H' → Q (.bl (bornN far days w held j)) H'
def spMostOff (K : PySem.W.Frag) : Sp := fun vs H Q _ => ∃ far days w held : Nat, vs = [.int (far : Int), .int (days : Int), .int (w : Int), .int (held : Int)] ∧ OffOk far days w held ∧ ∀ H', Same H H' → Q (moV days (moI far days w held)) H'
end NG

namespace NG
open PySem PySem.Spec PyProof.Rows L2
/-! ### comprehensions of two for -/
theorem lc2_tup {K : PySem.W.Frag} {a : Addr} {xs : List V} {g : TG} {tt : TT} {B : L2.St → Hp → (Hp → Prop) → Prop} {vs : List Nat} {σ : L2.St} {H1 : Hp} {D : Addr} {Qd : Hp → Prop} (Pv : Nat → Hp → Prop) (h0 : Pv 0 (upd H1 D (.lst []))) (hl : ∀ i H, i ≤ xs.length → Pv i H → SqT K H a xs)
    (hs : ∀ i x H, xs[i]? = some x → Pv i H → g x (wipe σ vs) H fun σ2 H2 => wipe σ2 vs = wipe σ vs ∧ tt σ2 H2 fun b H3 => if b = true then B σ2 H3 (Pv (i + 1)) else Pv (i + 1) H3) (hd : ∀ H, Pv xs.length H → Qd H) :
    ∃ W : Nat → Nat → Hp → Prop, (∃ m, W 0 m (upd H1 D (.lst []))) ∧ ∀ i m H, W i m H →
      ((Itt K a).stop i H ∧ Qd H) ∨ ((Itt K a).go i H ∧ ∃ Nx : Hp → Prop, (∀ H', Nx H' → ∃ m', m' < m ∧ W (i + 1) m' H') ∧ ∀ x H', (Itt K a).yld i H x H' → g x (wipe σ vs) H' fun σ2 H2 => wipe σ2 vs = wipe σ vs ∧ tt σ2 H2 fun b H3 =>
        if b = true then B σ2 H3 Nx else Nx H3) := by
  refine ⟨fun i m H => m = xs.length - i ∧ i ≤ xs.length ∧ Pv i H, ⟨xs.length, by simp, Nat.zero_le _, h0⟩, ?_⟩
  rintro i m H ⟨rfl, hi, p⟩
  have q := hl i H hi p
  by_cases hlt : i < xs.length
  · refine .inr ⟨⟨xs, xs[i], q, by simp [hlt]⟩, Pv (i + 1), fun H' p' => ⟨xs.length - (i + 1), by omega, rfl, hlt, p'⟩, fun x H' y => ?_⟩
    obtain ⟨e, y⟩ := y
    subst e
    exact hs i x _ (y xs q) p
  · have e : i = xs.length := by omega
    subst e
    exact .inl ⟨⟨xs, q, Nat.le_refl _⟩, hd H p⟩
theorem in_tup {K : PySem.W.Frag} {a : Addr} {xs : List V} {g : TG} {tt : TT} {te : TE} {vs : List Nat} {σ : L2.St} {H1 : Hp} {D : Addr} {Qd : Hp → Prop} (Pv : Nat → Hp → Prop) (h0 : Pv 0 H1) (hl : ∀ i H, i ≤ xs.length → Pv i H → SqT K H a xs)
    (hs : ∀ i x H, xs[i]? = some x → Pv i H → g x (wipe σ vs) H fun σ2 H2 => wipe σ2 vs = wipe σ vs ∧ tt σ2 H2 fun b H3 =>
      if b = true then te σ2 H3 fun y H4 => ∃ acc, H4 D = some (.lst acc) ∧ acc.length < sizeLine ∧ Pv (i + 1) (upd H4 D (.lst (acc ++ [y]))) else Pv (i + 1) H3) (hd : ∀ H, Pv xs.length H → Qd H) :
    ∃ W : Nat → Nat → Hp → Prop, (∃ m, W 0 m H1) ∧ ∀ i m H, W i m H →
      ((Itt K a).stop i H ∧ Qd H) ∨ ((Itt K a).go i H ∧ ∃ Nx : Hp → Prop, (∀ H', Nx H' → ∃ m', m' < m ∧ W (i + 1) m' H') ∧ ∀ x H', (Itt K a).yld i H x H' → g x (wipe σ vs) H' fun σ2 H2 => wipe σ2 vs = wipe σ vs ∧ tt σ2 H2 fun b H3 =>
        if b = true then te σ2 H3 fun y H4 => ∃ acc, H4 D = some (.lst acc) ∧ acc.length < sizeLine ∧ Nx (upd H4 D (.lst (acc ++ [y]))) else Nx H3) := by
  refine ⟨fun i m H => m = xs.length - i ∧ i ≤ xs.length ∧ Pv i H, ⟨xs.length, by simp, Nat.zero_le _, h0⟩, ?_⟩
  rintro i m H ⟨rfl, hi, p⟩
  have q := hl i H hi p
  by_cases hlt : i < xs.length
  · refine .inr ⟨⟨xs, xs[i], q, by simp [hlt]⟩, Pv (i + 1), fun H' p' => ⟨xs.length - (i + 1), by omega, rfl, hlt, p'⟩, fun x H' y => ?_⟩
    obtain ⟨e, y⟩ := y
    subst e
    exact hs i x _ (y xs q) p
  · have e : i = xs.length := by omega
    subst e
    exact .inl ⟨⟨xs, q, Nat.le_refl _⟩, hd H p⟩
/-! ### max of three ints -/
theorem cr_max3 {X : Cx} (hc : X.calm = true) : CallR X (.builtin "max") (fun xs H Q => ∃ i j k : Int, xs = [.int i, .int j, .int k] ∧ Q (.int (mx (mx i j) k)) H) := by
  intro pins s σ H xs us Q I r h
  obtain ⟨i, j, k, rfl, q⟩ := h
  refine call_max3Nu hc pins s σ H _ us Q I r ⟨_, _, _, _, rfl, ?_, q⟩
  have e2 : ∀ a b : Int, nuMax2 (.int a) (.int b) = some (.int (mx a b)) := fun a b => by
    show (some (decide (a < b))).map (fun c => if c = true then V.int b else V.int a) = _
    unfold mx
    by_cases c : a < b
    · rw [decide_eq_true c, if_pos c]
      rfl
    · rw [decide_eq_false c, if_neg c]
      rfl
  show (nuMax2 (.int i) (.int j)).bind _ = _
  rw [e2]
  show nuMax2 (.int (mx i j)) (.int k) = _
  rw [e2]
/-! ### bounds of doubters -/
def farS (a : Int) (e : Ex) : Int := mx (mx a (ab (spn e).1)) (ab (spn e).2)
def farI (es : List Ex) : Int := es.foldl farS 0
def endsI (es : List Ex) : List Int := es.flatMap fun e => [ab (spn e).1, ab (spn e).2]
theorem ab_nn (x : Int) : 0 ≤ ab x := by unfold ab; split <;> omega
theorem farF_ge : ∀ (es : List Ex) (a : Int), a ≤ es.foldl farS a ∧ ∀ x ∈ endsI es, x ≤ es.foldl farS a
  | [], a => ⟨Int.le_refl _, fun x h => by cases h⟩
  | e :: es, a => by
    obtain ⟨h1, h2⟩ := farF_ge es (farS a e)
    have k1 := le_mx a (ab (spn e).1)
    have k2 := le_mx (mx a (ab (spn e).1)) (ab (spn e).2)
    have k3 : farS a e = mx (mx a (ab (spn e).1)) (ab (spn e).2) := rfl
    refine ⟨?_, fun x hx => ?_⟩
    · show a ≤ es.foldl farS (farS a e)
      omega
    · show x ≤ es.foldl farS (farS a e)
      have hx : x ∈ [ab (spn e).1, ab (spn e).2] ++ endsI es := hx
      rcases List.mem_append.mp hx with hx | hx
      · simp only [List.mem_cons, List.not_mem_nil, or_false] at hx
        rcases hx with rfl | rfl <;> omega
      · exact h2 x hx
theorem farF_or : ∀ (es : List Ex) (a : Int), es.foldl farS a = a ∨ es.foldl farS a ∈ endsI es
  | [], a => .inl rfl
  | e :: es, a => by
    show es.foldl farS (farS a e) = a ∨ es.foldl farS (farS a e) ∈ [ab (spn e).1, ab (spn e).2] ++ endsI es
    rcases farF_or es (farS a e) with h | h
    · rw [h]
      unfold farS
      rcases mx_or (mx a (ab (spn e).1)) (ab (spn e).2) with z | z
      · rw [z]
        rcases mx_or a (ab (spn e).1) with y | y
        · exact .inl y
        · rw [y]
          exact .inr (List.mem_append_left _ (by simp))
      · rw [z]
        exact .inr (List.mem_append_left _ (by simp))
    · exact .inr (List.mem_append_right _ h)
theorem far_max {es : List Ex} {m : Int} (h0 : es ≠ []) (hm : m ∈ endsI es) (hx : ∀ y ∈ endsI es, y ≤ m) : m = farI es := by
  obtain ⟨h1, h2⟩ := farF_ge es 0
  have k := h2 m hm
  have nn : ∀ y ∈ endsI es, 0 ≤ y := fun y hy => by
    obtain ⟨e, _, hy⟩ := List.mem_flatMap.mp hy
    simp only [List.mem_cons, List.not_mem_nil, or_false] at hy
    rcases hy with rfl | rfl <;> exact ab_nn _
  have k2 := nn m hm
  unfold farI
  rcases farF_or es 0 with h | h
  · omega
  · have := hx _ h
    omega
def pw2 : Nat → Int
  | 0 => 1
  | 1 => 2
  | 2 => 4
  | 3 => 8
  | _ => 16
theorem pw2_bnd (s : Nat) : 1 ≤ pw2 s ∧ pw2 s ≤ 16 := by
  match s with
  | 0 => decide
  | 1 => decide
  | 2 => decide
  | 3 => decide
  | _ + 4 => show (1 : Int) ≤ 16 ∧ (16 : Int) ≤ 16; decide
def bndI (D : Dbt) : Int := mx 1 ((farI D.stakes + pw2 D.scale - 1) / pw2 D.scale)
theorem st_ends {many l : Nat} {e : Ex} (h : StOk many l e) : ab (spn e).1 ≤ 500 ∧ ab (spn e).2 ≤ 500 := by
  have k : ∀ {x : Int}, -500 ≤ x → x ≤ 500 → ab x ≤ 500 := fun h1 h2 => by unfold ab; split <;> omega
  rcases h with ⟨c, rfl, h1, h2⟩ | ⟨c, e', rfl, h1, h2, _⟩
  · exact ⟨k h1 h2, k h1 h2⟩
  · have z : ∀ y : Int, -500 ≤ mn c (mx (-c) y) ∧ mn c (mx (-c) y) ≤ 500 := fun y => by
      unfold mn mx
      split <;> split <;> omega
    exact ⟨k (z _).1 (z _).2, k (z _).1 (z _).2⟩
theorem far_500 {many l : Nat} {es : List Ex} (h : ∀ e ∈ es, StOk many l e) : 0 ≤ farI es ∧ farI es ≤ 500 := by
  refine ⟨(farF_ge es 0).1, ?_⟩
  unfold farI
  rcases farF_or es 0 with k | k
  · omega
  · obtain ⟨e, he, hy⟩ := List.mem_flatMap.mp k
    have := st_ends (h e he)
    simp only [List.mem_cons, List.not_mem_nil, or_false] at hy
    rcases hy with hy | hy <;> omega
theorem bnd_500 {many l : Nat} {D : Dbt} (h : ∀ e ∈ D.stakes, StOk many l e) : 1 ≤ bndI D ∧ bndI D ≤ 500 := by
  have h1 := far_500 h
  have h2 := pw2_bnd D.scale
  unfold bndI
  have h3 : (farI D.stakes + pw2 D.scale - 1) / pw2 D.scale ≤ 500 := by
    have : (farI D.stakes + pw2 D.scale - 1) / pw2 D.scale < 501 := by
      rw [Int.ediv_lt_iff_lt_mul (by omega)]
      omega
    omega
  unfold mx
  split <;> omega
end NG

namespace NG
open PySem PySem.Spec PyProof.Rows L2
/-! ### a statement that is never reached -/
theorem ps_dead {X : Cx} {st : Stmt} : PS X st (fun _ _ _ => False) := ⟨fun _ _ _ _ _ _ h => h.elim⟩
/-! ### min of a tuple of ints -/
def rMinT (K : PySem.W.Frag) : List V → Hp → VK → Prop := fun vs H Q => ∃ (a : Addr) (n : Int) (ns : List Int), vs = [V.ref a] ∧ SqT K H a ((n :: ns).map V.int) ∧ Q (.int (ns.foldl min n)) H
theorem cr_minT {X : Cx} (hc : X.calm = true) (hu : X.A.units + 64 < cLine) : CallR X (.builtin "min") (rMinT X.K) := by
  intro pins s σ H vs us Q I r h
  obtain ⟨a, n, ns, rfl, hs, q⟩ := h
  obtain ⟨its, rv, p, _⟩ := I.tuple hs
  rw [Vals.ref1 r]
  obtain ⟨as, hr⟩ := Dp.readsAll I ((n :: ns).map PyData.int) _ its (dp_ints (n :: ns)) rv
  rw [List.map_cons] at hr
  have al : PySem.W.AlikeAll (PyData.int n :: ns.map PyData.int) := ⟨fun x hx y hy => by
    rw [← List.map_cons (f := PyData.int)] at hx hy
    obtain ⟨i, _, rfl⟩ := List.mem_map.mp hx
    obtain ⟨j, _, rfl⟩ := List.mem_map.mp hy
    rfl, fun x hx => by
    rw [← List.map_cons (f := PyData.int)] at hx
    obtain ⟨i, _, rfl⟩ := List.mem_map.mp hx
    exact fun e => nomatch e⟩
  refine PySem.W.min_tuple_data (I.ok.hd hc) p (by simpa using hr) al (by rw [← List.map_cons (f := PyData.int), depth_ints]; omega) fun i v h' tk bs _ rd hk => ?_
  rw [PySem.W.minD_ints] at rd
  cases rd
  exact ⟨.int _, H, I.kept hk, ⟨_, rfl⟩, q⟩
/-! ### days of ones -/
def wsI (ss : List Int) (o : One) : List Int := o.dbt.stakes.map (wo o.regs ss)
def fullI (ss : List Int) (o : One) : Int := 1000 * pw2 o.dbt.scale * ss.sum * ss.sum
def winI (ss : List Int) (j : Nat) (o : One) : Int := ss.sum * (wsI ss o).getD j 0 - dotI ss (wsI ss o)
def alikeI : List Int → Bool
  | [] => true
  | n :: ns => decide (ns.foldl min n = ns.foldl max n)
theorem alike_eq (n : Int) (ns : List Int) : (ns.foldl min n == ns.foldl max n) = alikeI (n :: ns) := by
  show _ = decide (ns.foldl min n = ns.foldl max n)
  rw [Bool.eq_iff_iff]
  simp
def dayO (rg : List Int → Ds → List Int → List Int) (ss : List Int) (j : Nat) (o : One) : One :=
  ⟨o.dbt, rg ss (o.dbt.behinds.getD j .nil) o.regs, o.weight, o.motes * (fullI ss o + winI ss j o) / fullI ss o, -(-o.owed * (fullI ss o + winI ss j o) / fullI ss o) + 1, if alikeI (wsI ss o) = true then o.days else o.days + 1, o.got + 1000000000 * winI ss j o / fullI ss o⟩
def dayMs (rg : List Int → Ds → List Int → List Int) (ss : List Int) (j : Nat) : Ms → Ms
  | .nil => .nil
  | .one o r => .one (dayO rg ss j o) (dayMs rg ss j r)
  | .house nm m r => .house nm (dayMs rg ss j m) (dayMs rg ss j r)
theorem day_ao (rg : List Int → Ds → List Int → List Int) (ss : List Int) (j : Nat) : ∀ m : Ms, aoI (dayMs rg ss j m) = (aoI m).map (dayO rg ss j)
  | .nil => rfl
  | .one o r => by
    show _ :: aoI (dayMs rg ss j r) = _
    rw [day_ao rg ss j r]
    rfl
  | .house nm m r => by
    show aoI (dayMs rg ss j m) ++ aoI (dayMs rg ss j r) = _
    rw [day_ao rg ss j m, day_ao rg ss j r, ← List.map_append]
    rfl
/-! ### members as a list -/
def mks : Ms → List Mk
  | .nil => []
  | .one o r => .one o :: mks r
  | .house nm m r => .house nm m :: mks r
def MksAt (K : PySem.W.Frag) (H : Hp) : List V → List Mk → Prop
  | [], [] => True
  | v :: vs, e :: es => MkAt K H e v ∧ MksAt K H vs es
  | _, _ => False
theorem MksAt.imp {K : PySem.W.Frag} {H H' : Hp} (h : ∀ p xs, SqT K H p xs → SqT K H' p xs) : ∀ {vs : List V} {es : List Mk}, MksAt K H vs es → MksAt K H' vs es
  | [], [], _ => trivial
  | _ :: _, _ :: _, ⟨x, r⟩ => ⟨x.imp h, MksAt.imp h r⟩
theorem MksAt.len {K : PySem.W.Frag} {H : Hp} : ∀ {vs : List V} {es : List Mk}, MksAt K H vs es → vs.length = es.length
  | [], [], _ => rfl
  | _ :: _, _ :: _, ⟨_, r⟩ => by rw [List.length_cons, List.length_cons, r.len]
theorem MksAt.snoc {K : PySem.W.Frag} {H : Hp} {v : V} {e : Mk} (x : MkAt K H e v) : ∀ {vs : List V} {es : List Mk}, MksAt K H vs es → MksAt K H (vs ++ [v]) (es ++ [e])
  | [], [], _ => ⟨x, trivial⟩
  | _ :: _, _ :: _, ⟨y, r⟩ => ⟨y, MksAt.snoc x r⟩
theorem MksAt.get' {K : PySem.W.Frag} {H : Hp} : ∀ {vs : List V} {es : List Mk} {k : Nat} {v : V}, MksAt K H vs es → vs[k]? = some v → ∃ e, es[k]? = some e ∧ MkAt K H e v
  | [], [], _, _, _, h => by simp at h
  | v :: vs, e' :: es, 0, v', ⟨x, r⟩, h => by
    have : v = v' := Option.some.inj h
    subst this
    exact ⟨e', rfl, x⟩
  | v :: vs, e' :: es, k + 1, e, ⟨x, r⟩, h => MksAt.get' (k := k) r h
theorem MsAt.mks {K : PySem.W.Frag} {H : Hp} : ∀ {m : Ms} {vs : List V}, MsAt K H m vs → MksAt K H vs (mks m)
  | .nil, vs, h => by
    have h : vs = [] := h
    subst h
    exact trivial
  | .one o r, _, ⟨v, us, e, q, h⟩ => by
    subst e
    exact ⟨q, MsAt.mks h⟩
  | .house nm m r, _, ⟨p, pm, xs, us, e, q, qm, h1, h2⟩ => by
    subst e
    exact ⟨⟨p, pm, xs, rfl, q, qm, h1⟩, MsAt.mks h2⟩
theorem MksAt.ms {K : PySem.W.Frag} {H : Hp} : ∀ {m : Ms} {vs : List V}, MksAt K H vs (NG.mks m) → MsAt K H m vs
  | .nil, [], _ => rfl
  | .nil, _ :: _, h => h.elim
  | .one o r, [], h => h.elim
  | .one o r, v :: vs, ⟨x, h⟩ => ⟨v, vs, rfl, x, MksAt.ms h⟩
  | .house nm m r, [], h => h.elim
  | .house nm m r, v :: vs, ⟨⟨p, pm, xs, e, q, qm, h1⟩, h⟩ => by
    subst e
    exact ⟨p, pm, xs, vs, rfl, q, qm, h1, MksAt.ms h⟩
def dayMk (rg : List Int → Ds → List Int → List Int) (ss : List Int) (j : Nat) : Mk → Mk
  | .one o => .one (dayO rg ss j o)
  | .house nm m => .house nm (dayMs rg ss j m)
theorem mks_day (rg : List Int → Ds → List Int → List Int) (ss : List Int) (j : Nat) : ∀ m : Ms, mks (dayMs rg ss j m) = (mks m).map (dayMk rg ss j)
  | .nil => rfl
  | .one o r => by
    show _ :: mks (dayMs rg ss j r) = _
    rw [mks_day rg ss j r]
    rfl
  | .house nm m r => by
    show _ :: mks (dayMs rg ss j r) = _
    rw [mks_day rg ss j r]
    rfl
theorem mks_len : ∀ m : Ms, (mks m).length ≤ m.cnt
  | .nil => Nat.le_refl _
  | .one o r => by
    have := mks_len r
    show (mks r).length + 1 ≤ 1 + r.cnt
    omega
  | .house nm m r => by
    have := mks_len r
    show (mks r).length + 1 ≤ 1 + m.cnt + r.cnt
    omega
def MkD (P : One → Prop) (d c : Nat) : Mk → Prop
  | .one o => P o
  | .house _ m => m.dep < d ∧ m.cnt ≤ c ∧ m.all P
theorem mks_ok {P : One → Prop} {c : Nat} : ∀ {m : Ms} {d : Nat}, m.dep < d + 1 → m.cnt ≤ c → m.all P → ∀ k ∈ mks m, MkD P d c k
  | .nil, _, _, _, _, k, hk => by cases hk
  | .one o r, d, h1, h2, h3, k, hk => by
    have h1 : r.dep < d + 1 := h1
    have h2 : 1 + r.cnt ≤ c := h2
    rcases List.mem_cons.mp hk with rfl | hk
    · exact h3.1
    · exact mks_ok h1 (by omega) h3.2 k hk
  | .house nm m r, d, h1, h2, h3, k, hk => by
    have h1 : max (m.dep + 1) r.dep < d + 1 := h1
    have h2 : 1 + m.cnt + r.cnt ≤ c := h2
    rcases List.mem_cons.mp hk with rfl | hk
    · exact ⟨by omega, by omega, h3.1⟩
    · exact mks_ok (by omega) (by omega) h3.2 k hk
end NG

namespace NG
open PySem PySem.Spec PyProof.Rows L2
/-! ### rules with the fragment named, for use inside a comprehension -/
theorem maxTK {X : Cx} (K : PySem.W.Frag) (hc : X.calm = true) (hu : X.A.units + 64 < cLine) (h : X.K = K := by rfl) : CallR X (.builtin "max") (rMaxT K) := by
  subst h; exact cr_maxT hc hu
theorem minTK {X : Cx} (K : PySem.W.Frag) (hc : X.calm = true) (hu : X.A.units + 64 < cLine) (h : X.K = K := by rfl) : CallR X (.builtin "min") (rMinT K) := by
  subst h; exact cr_minT hc hu
theorem eqDK {X : Cx} (K : PySem.W.Frag) (hu : X.A.units + 64 < cLine) (h : X.K = K := by rfl) : OpR X (compareOp .Eq) (rEqD K) := by
  subst h; exact op_eqD hu
theorem neDK {X : Cx} (K : PySem.W.Frag) (hu : X.A.units + 64 < cLine) (h : X.K = K := by rfl) : OpR X (compareOp .NotEq) (rNeD K) := by
  subst h; exact op_neD hu
end NG

namespace NG
open PySem PySem.Spec PyProof.Rows L2
/-! ### a word among a written dict's keys -/
def rInKd (K : PySem.W.Frag) (w : World) : R2 := fun x y H Q => ∃ z p v, x = .str z ∧ y = .ref p ∧ KDct K w p z v ∧ (p == sysModules) = false ∧ Q (.bl true) H
def rNinKd (K : PySem.W.Frag) (w : World) : R2 := fun x y H Q => ∃ z p v, x = .str z ∧ y = .ref p ∧ KDct K w p z v ∧ (p == sysModules) = false ∧ Q (.bl false) H
theorem op_inKd {X : Cx} : OpR X (compareOp .In) (rInKd X.K X.w) := by
  intro pins s σ H x y v u Q I rx ry h
  obtain ⟨z, p, v0, rfl, rfl, ⟨es, n, u0, hl, hk, e, ru⟩, low, q⟩ := h
  exact op_in_kd (X := X) ⟨hl, hk, low⟩ pins s σ H _ _ v u Q I rx ry ⟨z, some u0, rfl, rfl, e, q⟩
theorem op_ninKd {X : Cx} : OpR X (compareOp .NotIn) (rNinKd X.K X.w) := by
  intro pins s σ H x y v u Q I rx ry h
  obtain ⟨z, p, v0, rfl, rfl, ⟨es, n, u0, hl, hk, e, ru⟩, low, q⟩ := h
  exact op_notIn_kd (X := X) ⟨hl, hk, low⟩ pins s σ H _ _ v u Q I rx ry ⟨z, some u0, rfl, rfl, e, q⟩
/-! ### kinds of things -/
def tyd : PyData → String
  | .none => "NoneType"
  | .bool _ => "bool"
  | .int _ => "int"
  | .str _ => "str"
  | .list _ => "list"
  | .tuple _ => "tuple"
  | .dict _ => "dict"
theorem Dp.tyx {K : PySem.W.Frag} {H : Hp} {d : PyData} {v : V} (h : Dp K H v d) : TyX K H v (.type (tyd d)) := by
  cases h with
  | non => exact .base .non
  | bl b => exact .base (.bl b)
  | int i => exact .base (.int i)
  | str x => exact .base (.str x)
  | lst q _ =>
    rcases q with (q | ⟨o, q⟩) | ⟨o, its, n, h1, h2, _⟩
    · exact .base (.lst q)
    · exact .base (.frz q)
    · exact .kList h1 h2
  | tup q _ => exact tyx_tup q
def isInt : PyData → Bool
  | .int _ => true
  | _ => false
theorem rIsi_of {K : PySem.W.Frag} {H : Hp} {d : PyData} {v : V} {T : String} {b : Bool} {Q : VK} (h : Dp K H v d) (k : kitB (tyd d) T = some b) (q : Q (.bl b) H) : rIsi K [v, .ty T] H Q :=
  ⟨v, .ty T, _, _, b, rfl, .ty T, Dp.tyx h, kit_ty k, q⟩
def kB : PyData → Bool
  | .bool _ => true
  | _ => false
def kI : PyData → Bool
  | .int _ => true
  | .bool _ => true
  | _ => false
theorem kit_int (d : PyData) : kitB (tyd d) "int" = some (kI d) := by
  cases d with
  | none => exact (by decide +kernel : kitB "NoneType" "int" = some false)
  | bool _ => exact (by decide +kernel : kitB "bool" "int" = some true)
  | int _ => exact (by decide +kernel : kitB "int" "int" = some true)
  | str _ => exact (by decide +kernel : kitB "str" "int" = some false)
  | list _ => exact (by decide +kernel : kitB "list" "int" = some false)
  | tuple _ => exact (by decide +kernel : kitB "tuple" "int" = some false)
  | dict _ => exact (by decide +kernel : kitB "dict" "int" = some false)
theorem kit_bool (d : PyData) : kitB (tyd d) "bool" = some (kB d) := by
  cases d with
  | none => exact (by decide +kernel : kitB "NoneType" "bool" = some false)
  | bool _ => exact (by decide +kernel : kitB "bool" "bool" = some true)
  | int _ => exact (by decide +kernel : kitB "int" "bool" = some false)
  | str _ => exact (by decide +kernel : kitB "str" "bool" = some false)
  | list _ => exact (by decide +kernel : kitB "list" "bool" = some false)
  | tuple _ => exact (by decide +kernel : kitB "tuple" "bool" = some false)
  | dict _ => exact (by decide +kernel : kitB "dict" "bool" = some false)
def kT : PyData → Bool
  | .tuple _ => true
  | _ => false
theorem kit_tup (d : PyData) : kitB (tyd d) "tuple" = some (kT d) := by
  cases d with
  | none => exact (by decide +kernel : kitB "NoneType" "tuple" = some false)
  | bool _ => exact (by decide +kernel : kitB "bool" "tuple" = some false)
  | int _ => exact (by decide +kernel : kitB "int" "tuple" = some false)
  | str _ => exact (by decide +kernel : kitB "str" "tuple" = some false)
  | list _ => exact (by decide +kernel : kitB "list" "tuple" = some false)
  | tuple _ => exact (by decide +kernel : kitB "tuple" "tuple" = some true)
  | dict _ => exact (by decide +kernel : kitB "dict" "tuple" = some false)
theorem isInt_eq (d : PyData) : (kI d && !kB d) = isInt d := by
  cases d <;> rfl
mutual
theorem dp_same {K : PySem.W.Frag} {H H' : Hp} (s : Same H H') : ∀ {d : PyData} {v : V}, Dp K H v d → Dp K H' v d
  | .none, _, .non => .non
  | .bool _, _, .bl b => .bl b
  | .int _, _, .int i => .int i
  | .str _, _, .str x => .str x
  | .list _, _, .lst q a => .lst (s.seq q) (dpall_same s a)
  | .tuple _, _, .tup q a => .tup (same_sqt s q) (dpall_same s a)
theorem dpall_same {K : PySem.W.Frag} {H H' : Hp} (s : Same H H') : ∀ {ds : List PyData} {vs : List V}, DpAll K H vs ds → DpAll K H' vs ds
  | [], _, .nil => .nil
  | _ :: _, _, .cons a b => .cons (dp_same s a) (dpall_same s b)
end
theorem dpall_len {K : PySem.W.Frag} {H : Hp} : ∀ {ds : List PyData} {vs : List V}, DpAll K H vs ds → vs.length = ds.length
  | [], _, .nil => rfl
  | _ :: _, _, .cons _ b => by rw [List.length_cons, List.length_cons, dpall_len b]
theorem dpall_get {K : PySem.W.Frag} {H : Hp} : ∀ {ds : List PyData} {vs : List V} {i : Nat} {v : V}, DpAll K H vs ds → vs[i]? = some v → ∃ d, ds[i]? = some d ∧ Dp K H v d
  | [], _, _, _, .nil, h => by simp at h
  | d :: _, _, 0, v, .cons a _, h => by
    have := Option.some.inj h
    subst this
    exact ⟨d, rfl, a⟩
  | _ :: _, _, i + 1, v, .cons _ b, h => dpall_get (i := i) b h
theorem dpall_drop {K : PySem.W.Frag} {H : Hp} : ∀ {n : Nat} {ds : List PyData} {vs : List V}, DpAll K H vs ds → DpAll K H (vs.drop n) (ds.drop n)
  | 0, _, _, h => h
  | _ + 1, [], _, .nil => by simpa using (.nil : DpAll K H [] [])
  | n + 1, _ :: _, _, .cons _ b => by
    rw [List.drop_succ_cons, List.drop_succ_cons]
    exact dpall_drop b
theorem dpall_snoc {K : PySem.W.Frag} {H : Hp} {v : V} {d : PyData} (x : Dp K H v d) : ∀ {ds : List PyData} {vs : List V}, DpAll K H vs ds → DpAll K H (vs ++ [v]) (ds ++ [d])
  | [], _, .nil => .cons x .nil
  | _ :: _, _, .cons a b => .cons a (dpall_snoc x b)
/-! ### kinds of places, words, shapes -/
inductive Kd where
  | part | sign | figure | place | factor | line
  deriving DecidableEq
def kdn : Kd → Str
  | .part => "part"
  | .sign => "sign"
  | .figure => "figure"
  | .place => "place"
  | .factor => "factor"
  | .line => "line"
def bndE : Kd → Int × Int
  | .part => (0, 0)
  | .sign => (0, 0)
  | .figure => (-1000, 1000)
  | .place => (0, 3)
  | .factor => (-9, 9)
  | .line => (1, 1000)
inductive We where
  | fig | reg | share | two (w : W4) | times | by | when | whr
  deriving DecidableEq
def wen : We → Str
  | .fig => "fig"
  | .reg => "reg"
  | .share => "share"
  | .two w => wn w
  | .times => "times"
  | .by => "by"
  | .when => "when"
  | .whr => "where"
def wsh : We → List Kd
  | .fig => [.figure]
  | .reg => [.place]
  | .share => [.sign]
  | .two _ => [.part, .part]
  | .times => [.factor, .part]
  | .by => [.place, .part]
  | .when => [.place, .figure, .part, .part]
  | .whr => [.sign, .line, .part, .part]
def weOf (x : Str) : Option We :=
  if x = "fig" then some .fig else if x = "reg" then some .reg else if x = "share" then some .share else if x = "sum" then some (.two .sum) else if x = "less" then some (.two .less)
  else if x = "least" then some (.two .least) else if x = "most" then some (.two .most) else if x = "times" then some .times else if x = "by" then some .by else if x = "when" then some .when else if x = "where" then some .whr else none
theorem weOf_wen (w : We) : weOf (wen w) = some w := by
  cases w with
  | two o => cases o <;> decide
  | _ => decide
inductive Wb where
  | op (w : D5) | when
def wbn : Wb → Str
  | .op w => dn w
  | .when => "when"
def wbsh : Wb → List Kd
  | .op .put => [.place, .figure]
  | .op .add => [.place, .figure]
  | .op .copy => [.place, .place]
  | .op .plus => [.place, .place]
  | .op .told => [.place, .sign]
  | .when => [.place, .figure, .part, .part]
def wbOf (x : Str) : Option Wb :=
  if x = "put" then some (.op .put) else if x = "add" then some (.op .add) else if x = "copy" then some (.op .copy) else if x = "plus" then some (.op .plus) else if x = "told" then some (.op .told) else if x = "when" then some .when else none
theorem wbOf_wbn (w : Wb) : wbOf (wbn w) = some w := by
  cases w with
  | op o => cases o <;> rfl
  | when => rfl
theorem wsh_len (w : We) : (wsh w).length ≤ 4 := by
  cases w with
  | two o => exact (by decide : 2 ≤ 4)
  | _ => decide
theorem wbsh_len (w : Wb) : (wbsh w).length ≤ 4 := by
  cases w with
  | op o => cases o <;> decide
  | when => decide
/-! ### what fits -/
def inD (lo hi : Int) : PyData → Bool
  | .int i => decide (lo ≤ i) && decide (i ≤ hi)
  | _ => false
def fitD (many : Int) : Kd → PyData → Bool
  | .part, _ => true
  | .sign, d => inD 0 (many - 1) d
  | .figure, d => inD (-1000) 1000 d
  | .place, d => inD 0 3 d
  | .factor, d => inD (-9) 9 d
  | .line, d => inD 1 1000 d
def fitsD (many : Int) : List Kd → List PyData → Bool
  | k :: ks, d :: ds => fitD many k d && fitsD many ks ds
  | [], [] => true
  | _, _ => false
theorem fitsD_len {many : Int} : ∀ {ks : List Kd} {ds : List PyData}, fitsD many ks ds = true → ds.length = ks.length
  | [], [], _ => rfl
  | _ :: _, _ :: _, h => by
    unfold fitsD at h
    rw [Bool.and_eq_true] at h
    rw [List.length_cons, List.length_cons, fitsD_len h.2]
  | [], _ :: _, h => by cases h
  | _ :: _, [], h => by cases h
theorem fitsD_ne {many : Int} {ks : List Kd} {ds : List PyData} (h : ds.length ≠ ks.length) : fitsD many ks ds = false := by
  cases e : fitsD many ks ds with
  | false => rfl
  | true => exact absurd (fitsD_len e) h
theorem fitsD_zip {many : Int} : ∀ {ks : List Kd} {ds : List PyData}, ds.length = ks.length → fitsD many ks ds = (List.zipWith (fitD many) ks ds).all id
  | [], [], _ => rfl
  | k :: ks, d :: ds, h => by
    rw [List.zipWith_cons_cons, List.all_cons, ← fitsD_zip (by simpa using h)]
    rfl
  | [], _ :: _, h => by simp at h
  | _ :: _, [], h => by simp at h
def partsD : List Kd → List PyData → List PyData
  | k :: ks, d :: ds => if k = .part then d :: partsD ks ds else partsD ks ds
  | _, _ => []
theorem partsD_len : ∀ (ks : List Kd) (ds : List PyData), (partsD ks ds).length ≤ ds.length
  | [], _ => Nat.zero_le _
  | _ :: _, [] => Nat.zero_le _
  | k :: ks, d :: ds => by
    have := partsD_len ks ds
    unfold partsD
    split <;> simp only [List.length_cons] <;> omega
theorem partsD_snoc : ∀ {ks : List Kd} {ds : List PyData} {i : Nat} {k : Kd} {d : PyData}, ks[i]? = some k → ds[i]? = some d → partsD (ks.take (i + 1)) (ds.take (i + 1)) = partsD (ks.take i) (ds.take i) ++ (if k = .part then [d] else [])
  | [], _, i, _, _, h, _ => by simp at h
  | _ :: _, [], i, _, _, _, h => by simp at h
  | k0 :: ks, d0 :: ds, 0, k, d, h, h2 => by
    have e1 : k0 = k := Option.some.inj h
    have e2 : d0 = d := Option.some.inj h2
    subst e1 e2
    simp [partsD]
  | k0 :: ks, d0 :: ds, i + 1, k, d, h, h2 => by
    have ih := partsD_snoc (ks := ks) (ds := ds) (i := i) h h2
    rw [List.take_succ_cons, List.take_succ_cons, List.take_succ_cons, List.take_succ_cons]
    unfold partsD
    split
    · rw [ih, List.cons_append]
    · exact ih
/-! ### how many parts, deeds -/
def addE : Nat → List Nat → Nat
  | t, [] => t
  | t, i :: r => if i = 0 then 0 else addE (t + i) r
def cntE (many : Int) : Nat → PyData → Nat
  | 0, _ => 0
  | k + 1, d => match d with
    | .tuple (.str x :: ds) => match weOf x with
      | some w => if fitsD many (wsh w) ds = true then addE 1 ((partsD (wsh w) ds).map (cntE many k)) else 0
      | none => 0
    | _ => 0
theorem cntE_eq (many : Int) (k : Nat) (w : We) (ds : List PyData) : cntE many (k + 1) (.tuple (.str (wen w) :: ds)) = if fitsD many (wsh w) ds = true then addE 1 ((partsD (wsh w) ds).map (cntE many k)) else 0 := by
  unfold cntE
  simp only [weOf_wen]
def wdE (many : Int) : Nat → PyData → Prop
  | 0, d => ∃ w ds, d = .tuple (.str (wen w) :: ds)
  | k + 1, d => ∃ w ds, d = .tuple (.str (wen w) :: ds) ∧ (fitsD many (wsh w) ds = true → ∀ x ∈ partsD (wsh w) ds, wdE many k x)
def isEx (many : Int) (d : PyData) : Bool := decide (1 ≤ cntE many 8 d) && decide (cntE many 8 d ≤ 40)
def exD : Nat → PyData → Ex
  | 0, _ => .fig 0
  | k + 1, d => match d with
    | .tuple (.str x :: ds) => match weOf x, ds with
      | some .fig, [.int c] => .fig c
      | some .reg, [.int i] => .reg i.toNat
      | some .share, [.int j] => .share j.toNat
      | some (.two w), [a, b] => .two w (exD k a) (exD k b)
      | some .times, [.int f, a] => .times f (exD k a)
      | some .by, [.int i, a] => .by i.toNat (exD k a)
      | some .when, [.int i, .int c, a, b] => .when i.toNat c (exD k a) (exD k b)
      | some .whr, [.int i, .int c, a, b] => .whr i.toNat c (exD k a) (exD k b)
      | _, _ => .fig 0
    | _ => .fig 0
def stakeD (many : Int) (sc : Nat) (d : PyData) : Bool := isEx many d && (decide (-(500 * pw2 sc) ≤ (spn (exD 8 d)).1) && decide ((spn (exD 8 d)).2 ≤ 500 * pw2 sc))
def addB : Nat → List (Option Nat) → Option Nat
  | t, [] => some t
  | _, none :: _ => none
  | t, some i :: r => addB (t + i) r
def sumB : Nat → List (Option Nat) → Option Nat
  | t, [] => some t
  | _, none :: _ => none
  | t, some i :: r => if 20 < t + i then none else sumB (t + i) r
def deedD (many : Int) (f : PyData → Option Nat) : PyData → Option Nat
  | .tuple (.str x :: ds) => match wbOf x with
    | some w => if fitsD many (wbsh w) ds = true then addB 1 ((ds.drop 2).map f) else none
    | none => none
  | _ => none
theorem deedD_eq (many : Int) (f : PyData → Option Nat) (w : Wb) (ds : List PyData) : deedD many f (.tuple (.str (wbn w) :: ds)) = if fitsD many (wbsh w) ds = true then addB 1 ((ds.drop 2).map f) else none := by
  unfold deedD
  simp only [wbOf_wbn]
def cntB (many : Int) : Nat → PyData → Option Nat
  | 0, d => match d with
    | .tuple [] => some 0
    | _ => none
  | k + 1, d => match d with
    | .tuple ds => sumB 0 (ds.map (deedD many (cntB many k)))
    | _ => none
def wdB (many : Int) : Nat → PyData → Prop
  | 0, _ => True
  | k + 1, d => ∀ ds, d = .tuple ds → ∀ x ∈ ds, ∃ w es, x = .tuple (.str (wbn w) :: es) ∧ (fitsD many (wbsh w) es = true → ∀ y ∈ es.drop 2, wdB many k y)
def optV : Option Nat → V
  | none => .non
  | some n => .int (n : Int)
def nameD (z : Str) : Bool := (decide (1 ≤ z.length) && decide (z.length ≤ 8)) && (z.cps.toList.all fun c => decide (c ∈ ("abcdefghijklmnopqrstuvwxyz" : Str).cps.toList))
def regsD (ds : List PyData) : Bool := decide (ds.length = 4) && ds.all (inD (-1000) 1000)
def dbtD (many : Nat) (nm : Str) (sc : Int) (rg st bh : List PyData) : Bool :=
  if (nameD nm && (decide (0 ≤ sc) && decide (sc ≤ 4)) && regsD rg) = true then (decide (st.length = many) && st.all (stakeD many sc.toNat)) && (decide (bh.length = many) && bh.all fun d => (cntB many 4 d).isSome) else false
/-! ### the tables -/
def TabE (K : PySem.W.Frag) (w : World) (a : Addr) : Prop := (a == sysModules) = false ∧ ∀ x : We, ∃ q, KDct K w a (wen x) (.ref q) ∧ ∀ H, SqT K H q ((wsh x).map fun k => V.str (kdn k))
def TabB (K : PySem.W.Frag) (w : World) (a : Addr) : Prop := (a == sysModules) = false ∧ ∀ x : Wb, ∃ q, KDct K w a (wbn x) (.ref q) ∧ ∀ H, SqT K H q ((wbsh x).map fun k => V.str (kdn k))
def TabN (K : PySem.W.Frag) (w : World) (a : Addr) : Prop := ∀ k : Kd, k ≠ .part → k ≠ .sign → ∃ q, KDct K w a (kdn k) (.ref q) ∧ ∀ H, SqT K H q [.int (bndE k).1, .int (bndE k).2]
theorem TabE.of {K : PySem.W.Frag} {w : World} {a : Addr} (h : Shapes K w a) (l : (a == sysModules) = false) : TabE K w a := ⟨l, fun x => by
  cases x with
  | fig => exact h (.fig 0)
  | reg => exact h (.reg 0)
  | share => exact h (.share 0)
  | two o => exact h (.two o (.fig 0) (.fig 0))
  | times => exact h (.times 0 (.fig 0))
  | «by» => exact h (.by 0 (.fig 0))
  | when => exact h (.when 0 0 (.fig 0) (.fig 0))
  | whr => exact h (.whr 0 0 (.fig 0) (.fig 0))⟩
/-! ### data of expressions -/
theorem ExAt.of {K : PySem.W.Frag} {H : Hp} : ∀ {e : Ex} {v : V}, Dp K H v (toD e) → ExAt K H e v := by
  intro e
  induction e with
  | fig c => intro v h; unfold toD at h; cases h with | tup q a => cases a with | cons a b => cases a; cases b with | cons a b => cases a; cases b; exact ⟨_, rfl, q⟩
  | reg c => intro v h; unfold toD at h; cases h with | tup q a => cases a with | cons a b => cases a; cases b with | cons a b => cases a; cases b; exact ⟨_, rfl, q⟩
  | share c => intro v h; unfold toD at h; cases h with | tup q a => cases a with | cons a b => cases a; cases b with | cons a b => cases a; cases b; exact ⟨_, rfl, q⟩
  | two w x y ihx ihy => intro v h; unfold toD at h; cases h with | tup q a => cases a with | cons a b => cases a; cases b with | cons a b => cases b with | cons c b => cases b; exact ⟨_, _, _, rfl, q, ihx a, ihy c⟩
  | times f x ih => intro v h; unfold toD at h; cases h with | tup q a => cases a with | cons a b => cases a; cases b with | cons a b => cases a; cases b with | cons c b => cases b; exact ⟨_, _, rfl, q, ih c⟩
  | «by» f x ih => intro v h; unfold toD at h; cases h with | tup q a => cases a with | cons a b => cases a; cases b with | cons a b => cases a; cases b with | cons c b => cases b; exact ⟨_, _, rfl, q, ih c⟩
  | when i c x y ihx ihy => intro v h; unfold toD at h; cases h with | tup q a => cases a with | cons a b => cases a; cases b with | cons a b => cases a; cases b with | cons a b => cases a; cases b with | cons d b => cases b with | cons e b => cases b; exact ⟨_, _, _, rfl, q, ihx d, ihy e⟩
  | whr i c x y ihx ihy => intro v h; unfold toD at h; cases h with | tup q a => cases a with | cons a b => cases a; cases b with | cons a b => cases a; cases b with | cons a b => cases a; cases b with | cons d b => cases b with | cons e b => cases b; exact ⟨_, _, _, rfl, q, ihx d, ihy e⟩
theorem inD_int {lo hi : Int} {d : PyData} (h : inD lo hi d = true) : ∃ i, d = .int i ∧ lo ≤ i ∧ i ≤ hi := by
  cases d with
  | int i =>
    unfold inD at h
    rw [Bool.and_eq_true, decide_eq_true_eq, decide_eq_true_eq] at h
    exact ⟨i, rfl, h.1, h.2⟩
  | _ => cases h
theorem addE_pos : ∀ {l : List Nat} {t : Nat}, 0 < addE t l → ∀ i ∈ l, 0 < i
  | [], _, _, i, h => by cases h
  | j :: r, t, h, i, hi => by
    unfold addE at h
    split at h
    · omega
    · rcases List.mem_cons.mp hi with rfl | hi
      · omega
      · exact addE_pos h i hi
theorem exD_of {many : Nat} : ∀ {k : Nat} {d : PyData}, 0 < cntE many k d → toD (exD k d) = d ∧ ExOk many (exD k d) ∧ (exD k d).dep ≤ k
  | 0, _, h => by exact absurd h (by unfold cntE; omega)
  | k + 1, d, h => by
    match d, h with
    | .tuple (.str x :: ds), h =>
      unfold cntE at h
      simp only at h
      cases hw : weOf x with
      | none => rw [hw] at h; simp at h
      | some w =>
        rw [hw] at h
        simp only at h
        by_cases hf : fitsD many (wsh w) ds = true
        · rw [if_pos hf] at h
          have hp := addE_pos h
          have hx : x = wen w := by
            unfold weOf at hw
            repeat' split at hw
            all_goals first | (cases hw; assumption) | cases hw
          subst hx
          have ih : ∀ {y : PyData}, y ∈ partsD (wsh w) ds → toD (exD k y) = y ∧ ExOk many (exD k y) ∧ (exD k y).dep ≤ k := fun hy => exD_of (hp _ (List.mem_map.mpr ⟨_, hy, rfl⟩))
          have hl := fitsD_len hf
          unfold exD
          simp only [weOf_wen]
          cases w with
          | fig =>
            match ds, hl with
            | [a], _ =>
              simp only [wsh, fitsD, fitD, Bool.and_true] at hf
              obtain ⟨i, rfl, h1, h2⟩ := inD_int hf
              exact ⟨rfl, ⟨h1, h2⟩, by show 1 ≤ k + 1; omega⟩
          | reg =>
            match ds, hl with
            | [a], _ =>
              simp only [wsh, fitsD, fitD, Bool.and_true] at hf
              obtain ⟨i, rfl, h1, h2⟩ := inD_int hf
              exact ⟨by show PyData.tuple [.str "reg", .int ((i.toNat : Nat) : Int)] = _; rw [Int.toNat_of_nonneg h1]; rfl, by show i.toNat < 4; omega, by show 1 ≤ k + 1; omega⟩
          | share =>
            match ds, hl with
            | [a], _ =>
              simp only [wsh, fitsD, fitD, Bool.and_true] at hf
              obtain ⟨i, rfl, h1, h2⟩ := inD_int hf
              exact ⟨by show PyData.tuple [.str "share", .int ((i.toNat : Nat) : Int)] = _; rw [Int.toNat_of_nonneg h1]; rfl, by show i.toNat < many; omega, by show 1 ≤ k + 1; omega⟩
          | two o =>
            match ds, hl with
            | [a, b], _ =>
              have ha := ih (y := a) (by simp [wsh, partsD])
              have hb := ih (y := b) (by simp [wsh, partsD])
              exact ⟨by show PyData.tuple [.str (wn o), toD (exD k a), toD (exD k b)] = _; rw [ha.1, hb.1]; rfl, ⟨ha.2.1, hb.2.1⟩, by show max (exD k a).dep (exD k b).dep + 1 ≤ k + 1; omega⟩
          | times =>
            match ds, hl with
            | [a, b], _ =>
              have hb := ih (y := b) (by simp [wsh, partsD])
              simp only [wsh, fitsD, fitD, Bool.and_true] at hf
              obtain ⟨i, rfl, h1, h2⟩ := inD_int hf
              exact ⟨by show PyData.tuple [.str "times", .int i, toD (exD k b)] = _; rw [hb.1]; rfl, ⟨⟨h1, h2⟩, hb.2.1⟩, by show (exD k b).dep + 1 ≤ k + 1; omega⟩
          | «by» =>
            match ds, hl with
            | [a, b], _ =>
              have hb := ih (y := b) (by simp [wsh, partsD])
              simp only [wsh, fitsD, fitD, Bool.and_true] at hf
              obtain ⟨i, rfl, h1, h2⟩ := inD_int hf
              exact ⟨by show PyData.tuple [.str "by", .int ((i.toNat : Nat) : Int), toD (exD k b)] = _; rw [hb.1, Int.toNat_of_nonneg h1]; rfl, ⟨by show i.toNat < 4; omega, hb.2.1⟩, by show (exD k b).dep + 1 ≤ k + 1; omega⟩
          | when =>
            match ds, hl with
            | [a, b, c, e], _ =>
              have hc := ih (y := c) (by simp [wsh, partsD])
              have he := ih (y := e) (by simp [wsh, partsD])
              simp only [wsh, fitsD, fitD, Bool.and_true, Bool.and_eq_true] at hf
              obtain ⟨i, rfl, h1, h2⟩ := inD_int hf.1
              obtain ⟨j, rfl, h3, h4⟩ := inD_int hf.2
              exact ⟨by show PyData.tuple [.str "when", .int ((i.toNat : Nat) : Int), .int j, toD (exD k c), toD (exD k e)] = _; rw [hc.1, he.1, Int.toNat_of_nonneg h1]; rfl, ⟨by show i.toNat < 4; omega, ⟨h3, h4⟩, hc.2.1, he.2.1⟩, by show max (exD k c).dep (exD k e).dep + 1 ≤ k + 1; omega⟩
          | whr =>
            match ds, hl with
            | [a, b, c, e], _ =>
              have hc := ih (y := c) (by simp [wsh, partsD])
              have he := ih (y := e) (by simp [wsh, partsD])
              simp only [wsh, fitsD, fitD, Bool.and_true, Bool.and_eq_true] at hf
              obtain ⟨i, rfl, h1, h2⟩ := inD_int hf.1
              obtain ⟨j, rfl, h3, h4⟩ := inD_int hf.2
              exact ⟨by show PyData.tuple [.str "where", .int ((i.toNat : Nat) : Int), .int j, toD (exD k c), toD (exD k e)] = _; rw [hc.1, he.1, Int.toNat_of_nonneg h1]; rfl, ⟨by show i.toNat < many; omega, ⟨h3, h4⟩, hc.2.1, he.2.1⟩, by show max (exD k c).dep (exD k e).dep + 1 ≤ k + 1; omega⟩
        · rw [if_neg hf] at h
          omega
    | .tuple [], h => simp [cntE] at h
    | .tuple (.none :: _), h => simp [cntE] at h
    | .tuple (.bool _ :: _), h => simp [cntE] at h
    | .tuple (.int _ :: _), h => simp [cntE] at h
    | .tuple (.list _ :: _), h => simp [cntE] at h
    | .tuple (.tuple _ :: _), h => simp [cntE] at h
    | .tuple (.dict _ :: _), h => simp [cntE] at h
    | .none, h => simp [cntE] at h
    | .bool _, h => simp [cntE] at h
    | .int _, h => simp [cntE] at h
    | .str _, h => simp [cntE] at h
    | .list _, h => simp [cntE] at h
    | .dict _, h => simp [cntE] at h
theorem dep_pos' : ∀ e : Ex, 1 ≤ e.dep
  | .fig _ => Nat.le_refl _
  | .reg _ => Nat.le_refl _
  | .share _ => Nat.le_refl _
  | .two _ a b => by show 1 ≤ max a.dep b.dep + 1; omega
  | .times _ a => by show 1 ≤ a.dep + 1; omega
  | .by _ a => by show 1 ≤ a.dep + 1; omega
  | .when _ _ a b => by show 1 ≤ max a.dep b.dep + 1; omega
  | .whr _ _ a b => by show 1 ≤ max a.dep b.dep + 1; omega
def Ex.size : Ex → Nat
  | .fig _ => 1
  | .reg _ => 1
  | .share _ => 1
  | .two _ a b => 1 + a.size + b.size
  | .times _ a => 1 + a.size
  | .by _ a => 1 + a.size
  | .when _ _ a b => 1 + a.size + b.size
  | .whr _ _ a b => 1 + a.size + b.size
theorem inD_of {lo hi i : Int} (h1 : lo ≤ i) (h2 : i ≤ hi) : inD lo hi (.int i) = true := by
  show (decide (lo ≤ i) && decide (i ≤ hi)) = true
  rw [decide_eq_true h1, decide_eq_true h2]
  rfl
theorem size_pos : ∀ e : Ex, 0 < e.size
  | .fig _ => Nat.one_pos
  | .reg _ => Nat.one_pos
  | .share _ => Nat.one_pos
  | .two _ a b => by show 0 < 1 + a.size + b.size; omega
  | .times _ a => by show 0 < 1 + a.size; omega
  | .by _ a => by show 0 < 1 + a.size; omega
  | .when _ _ a b => by show 0 < 1 + a.size + b.size; omega
  | .whr _ _ a b => by show 0 < 1 + a.size + b.size; omega
def weE : Ex → We
  | .fig _ => .fig
  | .reg _ => .reg
  | .share _ => .share
  | .two w _ _ => .two w
  | .times _ _ => .times
  | .by _ _ => .by
  | .when _ _ _ _ => .when
  | .whr _ _ _ _ => .whr
def itE : Ex → List PyData
  | .fig c => [.int c]
  | .reg i => [.int (i : Int)]
  | .share j => [.int (j : Int)]
  | .two _ a b => [toD a, toD b]
  | .times f a => [.int f, toD a]
  | .by i a => [.int (i : Int), toD a]
  | .when i c a b => [.int (i : Int), .int c, toD a, toD b]
  | .whr j c a b => [.int (j : Int), .int c, toD a, toD b]
theorem toD_eq : ∀ e : Ex, toD e = .tuple (.str (wen (weE e)) :: itE e)
  | .fig _ => rfl
  | .reg _ => rfl
  | .share _ => rfl
  | .two _ _ _ => rfl
  | .times _ _ => rfl
  | .by _ _ => rfl
  | .when _ _ _ _ => rfl
  | .whr _ _ _ _ => rfl
theorem itE_fits {many : Nat} : ∀ {e : Ex}, ExOk many e → fitsD many (wsh (weE e)) (itE e) = true
  | .fig c, h => by simp only [weE, wsh, itE, fitsD, fitD]; rw [inD_of h.1 h.2]; rfl
  | .reg i, h => by
    have h : i < 4 := h
    simp only [weE, wsh, itE, fitsD, fitD]; rw [inD_of (by omega) (by omega)]; rfl
  | .share j, h => by
    have h : j < many := h
    simp only [weE, wsh, itE, fitsD, fitD]; rw [inD_of (by omega) (by omega)]; rfl
  | .two w a b, h => rfl
  | .times f a, h => by simp only [weE, wsh, itE, fitsD, fitD]; rw [inD_of h.1.1 h.1.2]; rfl
  | .by i a, h => by
    have h1 : i < 4 := h.1
    simp only [weE, wsh, itE, fitsD, fitD]; rw [inD_of (by omega) (by omega)]; rfl
  | .when i c a b, h => by
    have h1 : i < 4 := h.1
    simp only [weE, wsh, itE, fitsD, fitD]; rw [inD_of (by omega) (by omega), inD_of h.2.1.1 h.2.1.2]; rfl
  | .whr j c a b, h => by
    have h1 : j < many := h.1
    simp only [weE, wsh, itE, fitsD, fitD]; rw [inD_of (by omega) (by omega), inD_of h.2.1.1 h.2.1.2]; rfl
theorem itE_parts : ∀ e : Ex, partsD (wsh (weE e)) (itE e) = e.kids.map toD
  | .fig _ => rfl
  | .reg _ => rfl
  | .share _ => rfl
  | .two _ _ _ => rfl
  | .times _ _ => rfl
  | .by _ _ => rfl
  | .when _ _ _ _ => rfl
  | .whr _ _ _ _ => rfl
theorem wdE_of {many : Nat} : ∀ {k : Nat} {e : Ex}, ExOk many e → wdE many k (toD e)
  | 0, e, _ => ⟨weE e, itE e, toD_eq e⟩
  | k + 1, e, h => ⟨weE e, itE e, toD_eq e, fun _ x hx => by
    rw [itE_parts] at hx
    obtain ⟨y, hy, rfl⟩ := List.mem_map.mp hx
    exact wdE_of (kids_ok e y h hy)⟩
theorem cntE_of {many : Nat} : ∀ {k : Nat} {e : Ex}, ExOk many e → e.dep ≤ k → cntE many k (toD e) = e.size
  | 0, e, _, h => absurd h (by have := dep_pos' e; omega)
  | k + 1, e, h, hd => by
    rw [toD_eq, cntE_eq, if_pos (itE_fits h), itE_parts, List.map_map]
    have ih : ∀ y ∈ e.kids, cntE many k (toD y) = y.size := fun y hy => cntE_of (kids_ok e y h hy) (by have := kids_dep e y hy; omega)
    rw [show e.kids.map (cntE many k ∘ toD) = e.kids.map Ex.size from List.map_congr_left ih]
    cases e with
    | fig => rfl
    | reg => rfl
    | share => rfl
    | two w a b =>
      have := size_pos a
      have := size_pos b
      show addE 1 [a.size, b.size] = 1 + a.size + b.size
      simp only [addE]
      rw [if_neg (by omega), if_neg (by omega)]
    | times f a =>
      have := size_pos a
      show addE 1 [a.size] = 1 + a.size
      simp only [addE]
      rw [if_neg (by omega)]
    | «by» f a =>
      have := size_pos a
      show addE 1 [a.size] = 1 + a.size
      simp only [addE]
      rw [if_neg (by omega)]
    | when i c a b =>
      have := size_pos a
      have := size_pos b
      show addE 1 [a.size, b.size] = 1 + a.size + b.size
      simp only [addE]
      rw [if_neg (by omega), if_neg (by omega)]
    | whr i c a b =>
      have := size_pos a
      have := size_pos b
      show addE 1 [a.size, b.size] = 1 + a.size + b.size
      simp only [addE]
      rw [if_neg (by omega), if_neg (by omega)]
theorem exD_toD : ∀ {k : Nat} {e : Ex}, e.dep ≤ k → exD k (toD e) = e
  | 0, e, h => absurd h (by have := dep_pos' e; omega)
  | k + 1, e, h => by
    rw [toD_eq]
    unfold exD
    simp only [weOf_wen]
    cases e with
    | fig c => rfl
    | reg i => rfl
    | share j => rfl
    | two w a b =>
      have h : max a.dep b.dep + 1 ≤ k + 1 := h
      show Ex.two w (exD k (toD a)) (exD k (toD b)) = _
      rw [exD_toD (e := a) (by omega), exD_toD (e := b) (by omega)]
    | times f a =>
      have h : a.dep + 1 ≤ k + 1 := h
      show Ex.times f (exD k (toD a)) = _
      rw [exD_toD (e := a) (by omega)]
    | «by» f a =>
      have h : a.dep + 1 ≤ k + 1 := h
      show Ex.by f (exD k (toD a)) = _
      rw [exD_toD (e := a) (by omega)]
    | when i c a b =>
      have h : max a.dep b.dep + 1 ≤ k + 1 := h
      show Ex.when i c (exD k (toD a)) (exD k (toD b)) = _
      rw [exD_toD (e := a) (by omega), exD_toD (e := b) (by omega)]
    | whr i c a b =>
      have h : max a.dep b.dep + 1 ≤ k + 1 := h
      show Ex.whr i c (exD k (toD a)) (exD k (toD b)) = _
      rw [exD_toD (e := a) (by omega), exD_toD (e := b) (by omega)]
/-- a stake that is one -/
theorem stakeD_of {many sc : Nat} {e : Ex} (h : ExOk many e) (hd : e.dep ≤ 8) : stakeD many sc (toD e) = (decide (e.size ≤ 40) && (decide (-(500 * pw2 sc) ≤ (spn e).1) && decide ((spn e).2 ≤ 500 * pw2 sc))) := by
  unfold stakeD isEx
  rw [cntE_of h hd, exD_toD hd, decide_eq_true (show 1 ≤ e.size from size_pos e), Bool.true_and]
end NG

namespace NG
open PySem PySem.Spec PyProof.Rows L2
/-! ### a def with defaults, called by fewer arguments -/
structure CalD (P : Program) (w : World) (K : PySem.W.Frag) (mg : Str → Option Value) (base : Heap) (k : Nat) (x : Str) (dvs : List V) (sp : Sp) : Prop where
  ex : ∃ (f : Addr) (fd : FuncData) (ps : List Str) (ds : List Value), FnOk P w K mg base CX0 k f fd ps sp ∧ mg x = some (.ref f) ∧ PySem.W.keepIn K (.ref f) = true ∧ Binds K fd ps ds ∧ Vals dvs ds
theorem pe_cd {X : Cx} {k j : Nat} {x : Str} {dvs : List V} {sp : Sp} {p pos : Pos} {e : Expr} {es : List Expr} {t : TA} (c : CalD X.prog X.w X.K X.mg X.base k x dvs sp) (hr : Room j X.A) (hk : k ≤ j) (hg : Gl X x) (ha : PA X (e :: es) t)
    (hdb : (x == ("__debug__" : Str)) = false := by decide) (he : starEach (e :: es) X.env = (false, eval e X.env) :: starEach es X.env := by rfl) (hpl : (backTo pos (starEach es X.env)).any (·.1) = false := by rfl) :
    PE X (.Call (.Name x p) (e :: es) [] pos) (tCall sp dvs E0 t) := by
  obtain ⟨f, fd, ps, ds, F, hm, kp, b, hd⟩ := c.ex
  exact pe_call F (hr.mono hk) hg hm kp b hd pass0 ha hdb he hpl
theorem fund_mk {K : PySem.W.Frag} {x qual : Str} {st : Stmt} {f dT : Addr} {oc : Value} {od odT : Option Addr} {kV doc pm : Value} {an : Option Addr} {cdv ct : Value} {osl slT : Array (Option Value)} {its : Array Value} {m : Nat} {dvs : List V}
    (l : K.lookup f = some ⟨oc, od, .func (PySem.W.fnOf x qual (defArgs st) (defBody st) (defScope st) (.ref dT) kV doc pm an cdv ct), osl⟩) (c : PySem.W.codeIn K cdv qual = true) (kp : PySem.W.keepIn K (.ref f) = true)
    (lt : K.lookup dT = some ⟨.type "tuple", odT, .seq its m, slT⟩) (hv : Vals dvs its.toList) (hn : dvs ≠ []) : FunD K x qual (defArgs st) (defBody st) (defScope st) dvs [] f (PySem.W.fnOf x qual (defArgs st) (defBody st) (defScope st) (.ref dT) kV doc pm an cdv ct) :=
  ⟨⟨oc, od, .ref dT, kV, doc, pm, an, cdv, ct, osl, rfl, l, c, .inr ⟨hn, dT, _, its.toList, m, rfl, lt, by simp, hv⟩, .inl rfl⟩, kp⟩
theorem fund_ok {P : Program} {w : World} {K : PySem.W.Frag} {mg : Str → Option Value} {base : Heap} {x qual : Str} {params : Arguments} {body : List Stmt} {scope : Scope} {dvs : List V} {kws : List (Str × V)} {f : Addr} {fd : FuncData} {N ps : List Str} {k : Nat} {sp : Sp} (F : FunD K x qual params body scope dvs kws f fd) (S : FnScope N ps scope) (len : ∀ vs H Q E, sp vs H Q E → vs.length = ps.length)
    (hbody : ∀ (cdv : Value) (A : Around) (outer : List Env) (s : Shared) (H : Hp) (vs : List V) (Q : VK) (E : XK), Room k (A.deeper (envOfC qual scope s.heap.objs.size f cdv)) → sp vs H Q E →
      ∃ t, PSs (cxOf CX0 P w K mg base N qual scope f cdv A outer s H E).nox body t ∧ t { nx := fun _ H' => Q .non H', rt := Q } (start N vs) H) : FnOk P w K mg base CX0 (k + 1) f fd ps sp :=
  F.ok S len fun cdv A outer s H vs Q E hr h => by
    obtain ⟨t, ht, hq⟩ := hbody cdv A outer s H vs Q E hr h
    exact ⟨t, ht.nox, hq⟩
theorem binds_full {K : PySem.W.Frag} {fd : FuncData} {ps : List Str} {dvs : List V} {n : Nat} (h : ∃ ds, Vals (List.drop n dvs) ds ∧ L2.Binds K fd ps ds) (hn : List.drop n dvs = []) : L2.Binds K fd ps [] := by
  obtain ⟨ds, hd, hb⟩ := h
  rw [hn] at hd
  cases hd
  exact hb
/-! ### expressions without where words -/
def noW : Ex → Prop
  | .fig _ => True
  | .reg _ => True
  | .share _ => True
  | .two _ a b => noW a ∧ noW b
  | .times _ a => noW a
  | .by _ a => noW a
  | .when _ _ a b => noW a ∧ noW b
  | .whr _ _ _ _ => False
theorem noW_kids : ∀ {e : Ex}, noW e → ∀ k ∈ e.kids, noW k
  | .fig _, _, k, hk => by cases hk
  | .reg _, _, k, hk => by cases hk
  | .share _, _, k, hk => by cases hk
  | .two _ a b, h, k, hk => by
    rcases List.mem_cons.mp hk with rfl | hk
    · exact h.1
    · rw [List.mem_singleton.mp hk]; exact h.2
  | .times _ a, h, k, hk => by rw [List.mem_singleton.mp hk]; exact h
  | .by _ a, h, k, hk => by rw [List.mem_singleton.mp hk]; exact h
  | .when _ _ a b, h, k, hk => by
    rcases List.mem_cons.mp hk with rfl | hk
    · exact h.1
    · rw [List.mem_singleton.mp hk]; exact h.2
  | .whr _ _ _ _, h, k, hk => h.elim
end NG

namespace NG
open PySem PySem.Spec PyProof.Rows L2
/-! ### doubters that are such -/
theorem sumB_cons {t i : Nat} {r : List (Option Nat)} (h : t + i ≤ 20) : sumB t (some i :: r) = sumB (t + i) r := by
  show (if 20 < t + i then none else sumB (t + i) r) = _
  rw [if_neg (by omega)]
theorem cntB_sum (many : Int) (k : Nat) (ds : List PyData) (h : ds = [] ∨ ∃ k', k = k' + 1) : cntB many k (.tuple ds) = sumB 0 (ds.map (deedD many (cntB many (k - 1)))) := by
  rcases h with rfl | ⟨k', rfl⟩
  · cases k <;> rfl
  · rfl
theorem op_fits {many : Nat} {o : D5} {i : Nat} {x : Int} (hi : i < 4) (hx : xok many o x) : fitsD many (wbsh (.op o)) [.int (i : Int), .int x] = true := by
  cases o with
  | put => simp only [wbsh, fitsD, fitD]; rw [inD_of (by omega) (by omega), inD_of hx.1 hx.2]; rfl
  | add => simp only [wbsh, fitsD, fitD]; rw [inD_of (by omega) (by omega), inD_of hx.1 hx.2]; rfl
  | copy => have h1 := hx.1; have h2 := hx.2; simp only [wbsh, fitsD, fitD]; rw [inD_of (by omega) (by omega), inD_of h1 (by omega)]; rfl
  | plus => have h1 := hx.1; have h2 := hx.2; simp only [wbsh, fitsD, fitD]; rw [inD_of (by omega) (by omega), inD_of h1 (by omega)]; rfl
  | told => have h1 := hx.1; have h2 := hx.2; simp only [wbsh, fitsD, fitD]; rw [inD_of (by omega) (by omega), inD_of h1 (by omega)]; rfl
theorem cntB_of {many : Nat} : ∀ {d : Ds} {k t : Nat}, DsOk many d → d.dep ≤ k → t + d.cnt ≤ 20 → sumB t ((dsD d).map (deedD many (cntB many (k - 1)))) = some (t + d.cnt)
  | .nil, k, t, _, _, _ => rfl
  | .op o i x r, k, t, ⟨h1, h2, h3⟩, hd, hc => by
    have hd : max 1 r.dep ≤ k := hd
    have hc : t + (1 + r.cnt) ≤ 20 := hc
    have e : deedD many (cntB many (k - 1)) (.tuple [.str (dn o), .int (i : Int), .int x]) = some 1 := by
      have := deedD_eq many (cntB many (k - 1)) (.op o) [.int (i : Int), .int x]
      rw [if_pos (op_fits h1 h2)] at this
      exact this
    show sumB t (deedD many (cntB many (k - 1)) (.tuple [.str (dn o), .int (i : Int), .int x]) :: (dsD r).map (deedD many (cntB many (k - 1)))) = some (t + (1 + r.cnt))
    rw [e, sumB_cons (by omega), cntB_of h3 (by omega) (by omega)]
    congr 1
    omega
  | .when i c a b r, k, t, ⟨h1, h2, h3, h4, h5⟩, hd, hc => by
    have hd : max (max a.dep b.dep + 1) r.dep ≤ k := hd
    have hc : t + (1 + (a.cnt + b.cnt) + r.cnt) ≤ 20 := hc
    have ca : cntB many (k - 1) (.tuple (dsD a)) = some a.cnt := by
      rw [cntB_sum many (k - 1) (dsD a) (by
        cases a with
        | nil => exact .inl rfl
        | op o i x r => have : max 1 r.dep ≤ k - 1 := by have h : (Ds.op o i x r).dep = max 1 r.dep := rfl; omega
                        exact .inr ⟨k - 2, by omega⟩
        | when i c a b r => have : max (max a.dep b.dep + 1) r.dep ≤ k - 1 := by have h : (Ds.when i c a b r).dep = max (max a.dep b.dep + 1) r.dep := rfl; omega
                            exact .inr ⟨k - 2, by omega⟩), cntB_of h3 (by omega) (by omega), Nat.zero_add]
    have cb : cntB many (k - 1) (.tuple (dsD b)) = some b.cnt := by
      rw [cntB_sum many (k - 1) (dsD b) (by
        cases b with
        | nil => exact .inl rfl
        | op o i x r => have : max 1 r.dep ≤ k - 1 := by have h : (Ds.op o i x r).dep = max 1 r.dep := rfl; omega
                        exact .inr ⟨k - 2, by omega⟩
        | when i c a b r => have : max (max a.dep b.dep + 1) r.dep ≤ k - 1 := by have h : (Ds.when i c a b r).dep = max (max a.dep b.dep + 1) r.dep := rfl; omega
                            exact .inr ⟨k - 2, by omega⟩), cntB_of h4 (by omega) (by omega), Nat.zero_add]
    have e : deedD many (cntB many (k - 1)) (.tuple [.str "when", .int (i : Int), .int c, .tuple (dsD a), .tuple (dsD b)]) = some (1 + a.cnt + b.cnt) := by
      have := deedD_eq many (cntB many (k - 1)) .when [.int (i : Int), .int c, .tuple (dsD a), .tuple (dsD b)]
      rw [if_pos (by simp only [wbsh, fitsD, fitD]; rw [inD_of (by omega) (by omega), inD_of h2.1 h2.2]; rfl)] at this
      refine this.trans ?_
      show addB 1 [cntB many (k - 1) (.tuple (dsD a)), cntB many (k - 1) (.tuple (dsD b))] = _
      rw [ca, cb]
      rfl
    show sumB t (deedD many (cntB many (k - 1)) (.tuple [.str "when", .int (i : Int), .int c, .tuple (dsD a), .tuple (dsD b)]) :: (dsD r).map (deedD many (cntB many (k - 1)))) = some (t + (1 + (a.cnt + b.cnt) + r.cnt))
    rw [e, sumB_cons (by omega), cntB_of h5 (by omega) (by omega)]
    congr 1
    omega
theorem wdB_of {many : Int} : ∀ {k : Nat} {d : Ds}, wdB many k (.tuple (dsD d))
  | 0, _ => trivial
  | k + 1, d => fun ds e x hx => by
    cases e
    have go : ∀ {d : Ds}, x ∈ dsD d → ∃ w es, x = .tuple (.str (wbn w) :: es) ∧ (fitsD many (wbsh w) es = true → ∀ y ∈ es.drop 2, wdB many k y) := by
      intro d
      induction d with
      | nil => intro hx; cases hx
      | op o i z r ih =>
        intro hx
        rcases List.mem_cons.mp hx with rfl | hx
        · exact ⟨.op o, _, rfl, fun _ y hy => by cases hy⟩
        · exact ih hx
      | when i c a b r iha ihb ih =>
        intro hx
        rcases List.mem_cons.mp hx with rfl | hx
        · refine ⟨.when, _, rfl, fun _ y hy => ?_⟩
          rcases List.mem_cons.mp hy with rfl | hy
          · exact wdB_of
          · rw [List.mem_singleton.mp hy]
            exact wdB_of
        · exact ih hx
    exact go hx
structure DbFit (many : Nat) (D : Dbt) : Prop where
  nm : nameD D.name = true
  sc : D.scale < 5
  rg : RegOk D.begins
  sl : D.stakes.length = many
  st : ∀ e ∈ D.stakes, ExOk many e ∧ e.dep ≤ 8 ∧ e.size ≤ 40 ∧ -(500 * pw2 D.scale) ≤ (spn e).1 ∧ (spn e).2 ≤ 500 * pw2 D.scale
  bl : D.behinds.length = many
  bh : ∀ d ∈ D.behinds, DsOk many d ∧ d.dep ≤ 4 ∧ d.cnt ≤ 20
theorem all_map_of {α β : Type} {f : α → β} {p : β → Bool} {l : List α} (h : ∀ x ∈ l, p (f x) = true) : (l.map f).all p = true := by
  rw [List.all_eq_true]
  intro y hy
  obtain ⟨x, hx, rfl⟩ := List.mem_map.mp hy
  exact h x hx
theorem dbtD_true {many : Nat} {D : Dbt} (h : DbFit many D) : dbtD many D.name (D.scale : Int) (D.begins.map PyData.int) (D.stakes.map toD) (D.behinds.map fun d => .tuple (dsD d)) = true := by
  unfold dbtD
  have h1 : regsD (D.begins.map PyData.int) = true := by
    unfold regsD
    rw [List.length_map, decide_eq_true h.rg.1, Bool.true_and]
    exact all_map_of fun x hx => inD_of (h.rg.2 x hx).1 (h.rg.2 x hx).2
  have hsc := h.sc
  rw [h.nm, decide_eq_true (show (0 : Int) ≤ (D.scale : Int) by omega), decide_eq_true (show (D.scale : Int) ≤ 4 by omega), h1]
  refine (if_pos rfl).trans ?_
  rw [List.length_map, List.length_map, decide_eq_true h.sl, decide_eq_true h.bl, Bool.true_and, Bool.true_and, Bool.and_eq_true]
  refine ⟨all_map_of fun e he => ?_, all_map_of fun d hd => ?_⟩
  · obtain ⟨a1, a2, a3, a4, a5⟩ := h.st e he
    rw [Int.toNat_natCast, stakeD_of a1 a2, decide_eq_true a3, decide_eq_true a4, decide_eq_true a5]
    rfl
  · obtain ⟨a1, a2, a3⟩ := h.bh d hd
    rw [cntB_sum many 4 (dsD d) (.inr ⟨3, rfl⟩), cntB_of (k := 4) (t := 0) a1 a2 (by omega)]
    rfl
/-! ### laid out -/
theorem laymap {α : Type} {f : α → PyData} : ∀ {l : List α}, (∀ x ∈ l, (f x).canLay0 = true) → PyData.canLayAll0 (l.map f) = true
  | [], _ => rfl
  | x :: r, h => by
    show ((f x).canLay0 && PyData.canLayAll0 (r.map f)) = true
    rw [h x (List.mem_cons_self ..), laymap fun y hy => h y (List.mem_cons_of_mem _ hy)]
    rfl
theorem depmap {α : Type} {f : α → PyData} {k : Nat} : ∀ {l : List α}, (∀ x ∈ l, (f x).depth ≤ k) → PyData.depthAll (l.map f) ≤ k
  | [], _ => Nat.zero_le _
  | x :: r, h => by
    have a := h x (List.mem_cons_self ..)
    have b := depmap (l := r) fun y hy => h y (List.mem_cons_of_mem _ hy)
    show max (f x).depth (PyData.depthAll (r.map f)) ≤ k
    omega
theorem layds : ∀ d : Ds, PyData.canLayAll0 (dsD d) = true
  | .nil => rfl
  | .op o i x r => by
    show (((PyData.canLay0 (.str (dn o))) && (true && (true && true))) && PyData.canLayAll0 (dsD r)) = true
    rw [layds r]
    cases o <;> decide +kernel
  | .when i c a b r => by
    show ((PyData.canLay0 (.str "when") && (true && (true && (PyData.canLayAll0 (dsD a) && (PyData.canLayAll0 (dsD b) && true))))) && PyData.canLayAll0 (dsD r)) = true
    rw [layds a, layds b, layds r]
    decide +kernel
theorem depds : ∀ d : Ds, PyData.depthAll (dsD d) ≤ 2 * d.dep
  | .nil => Nat.zero_le _
  | .op o i x r => by
    have := depds r
    show max (max 0 (max 0 (max 0 0)) + 1) (PyData.depthAll (dsD r)) ≤ 2 * max 1 r.dep
    omega
  | .when i c a b r => by
    have h1 := depds a
    have h2 := depds b
    have h3 := depds r
    show max (max 0 (max 0 (max 0 (max (PyData.depthAll (dsD a) + 1) (max (PyData.depthAll (dsD b) + 1) 0)))) + 1) (PyData.depthAll (dsD r)) ≤ 2 * max (max a.dep b.dep + 1) r.dep
    omega
theorem shaped_db {many : Nat} {D : Dbt} (hn : PyData.canLay0 (.str D.name) = true) (h : DbFit many D) : SeqAt.shaped (dbD D) = true := by
  have h2 : PyData.canLayAll0 (D.begins.map PyData.int) = true := laymap fun _ _ => rfl
  have h3 : PyData.canLayAll0 (D.stakes.map toD) = true := laymap fun e _ => lay_ex e
  have h4 : PyData.canLayAll0 (D.behinds.map fun d => .tuple (dsD d)) = true := laymap fun d _ => layds d
  have d2 : PyData.depthAll (D.begins.map PyData.int) ≤ 0 := depmap fun _ _ => Nat.le_refl _
  have d3 : PyData.depthAll (D.stakes.map toD) ≤ 8 := depmap fun e he => Nat.le_trans (depth_ex e) (h.st e he).2.1
  have d4 : PyData.depthAll (D.behinds.map fun d => .tuple (dsD d)) ≤ 9 := depmap fun d hd => by
    have a := depds d
    have b := (h.bh d hd).2.1
    show PyData.depthAll (dsD d) + 1 ≤ 9
    omega
  show ((PyData.canLay0 (.str D.name) && (true && (PyData.canLayAll0 (D.begins.map PyData.int) && (PyData.canLayAll0 (D.stakes.map toD) && (PyData.canLayAll0 (D.behinds.map fun d => .tuple (dsD d)) && true))))) && decide (max 0 (max 0 (max (PyData.depthAll (D.begins.map PyData.int) + 1) (max (PyData.depthAll (D.stakes.map toD) + 1) (max (PyData.depthAll (D.behinds.map fun d => .tuple (dsD d)) + 1) 0)))) + 1 ≤ 64)) = true
  rw [hn, h2, h3, h4, decide_eq_true (by omega)]
  rfl
/-! ### shares told, rows of ints shown -/
theorem shw_ints : ∀ {ns : List Int}, (∀ x ∈ ns, x.natAbs < 2 ^ 600) → ShwAll (ns.map PyData.int) (602 * ns.length) 0
  | [], _ => ShwAll.nil
  | n :: r, h => by
    have h1 := Shw.int (i := n) (h n (List.mem_cons_self ..))
    have h2 := shw_ints (ns := r) fun x hx => h x (List.mem_cons_of_mem _ hx)
    have h3 := ShwAll.cons h1 h2 (Nat.le_refl 0) (Nat.le_refl 0)
    refine ⟨h3.sh, h3.lf, Nat.le_trans h3.wt ?_, h3.dp⟩
    rw [List.length_cons]
    omega
end NG

namespace NG
open PySem PySem.Spec PyProof.Rows L2
/-! ### calls by keywords alone, in the parameters' own order -/
structure CalKO (P : Program) (w : World) (K : PySem.W.Frag) (mg : Str → Option Value) (base : Heap) (k : Nat) (x : Str) (ks : List Str) (sp : Sp) : Prop where
  ex : ∃ (f : Addr) (fd : FuncData), FnG P w K mg base k f fd ks sp ∧ mg x = some (.ref f) ∧ PySem.W.keepIn K (.ref f) = true ∧ ∀ (s : Shared) (ws : List Value), ws.length = ks.length → BindsTo s fd ⟨[], ks.zip ws⟩ (ks.zip ws)
section
variable {X : Cx} {k j : Nat} {x : Str} {ks : List Str} {sp : Sp} {p pos : Pos} {kws : List Keyword} {tk : TA}
theorem pe_kwO (c : CalKO X.prog X.w X.K X.mg X.base k x ks sp) (hgd : X.A.guards = some []) (hr : Room j X.A) (hk : k ≤ j) (hg : Gl X x) (hkw : PK X kws tk) (hall : (backToKw pos (keywordEach kws X.env)).all (·.1.isSome) = true := by rfl) (hks : (backToKw pos (keywordEach kws X.env)).filterMap (·.1) = ks := by rfl)
    (hdb : (x == ("__debug__" : Str)) = false := by decide) (hpl : ((backTo pos (starEach [] X.env)).any (·.1) || (backToKw pos (keywordEach kws X.env)).any (·.1.isNone)) = false := by rfl) :
    PE X (.Call (.Name x p) [] kws pos) (fun σ H Q => tk σ H fun zs H2 => zs.length = ks.length ∧ sp zs H2 Q E0) := by
  obtain ⟨f, fd, F, hm, kp, b⟩ := c.ex
  refine ⟨fun pins s σ H Q I h => wpAny_Call_Name_kw (ld_glob I hg hm ?_ hdb)⟩
  refine PySem.W.callWith_KW0 (h₀ := X.base) I.ok.mod.kin kp hall (thn (hkw.run pos pins s σ H _ I h) fun ws s2 ⟨zs, H2, I2, rz, hl, q⟩ => ⟨I2.kIn, ?_⟩) hpl
  rw [hks]
  refine wpAny_call (codeAny_mono (F.run X.A X.stack s2 H2 ⟨[], ks.zip ws⟩ ws zs Q hgd (hr.mono hk) I2.env0 (b s2 ws (by rw [← rz.length]; exact hl)) rz q) fun res s' hq => ?_)
  match res, hq with
  | .ok (.ret u), hq => exact I2.after hq
  | .ok .next, hq => exact False.elim hq
  | .ok .brk, hq => exact False.elim hq
  | .ok .cont, hq => exact False.elim hq
  | .error e, hq => exact False.elim hq
end
/-! ### too deep -/
theorem addE_zero : ∀ {l : List Nat} {t : Nat}, 0 ∈ l → addE t l = 0
  | [], _, h => by cases h
  | x :: l, t, h => by
    unfold addE
    by_cases c : x = 0
    · rw [if_pos c]
    · rw [if_neg c]
      refine addE_zero ?_
      rcases List.mem_cons.mp h with e | h
      · exact absurd e.symm c
      · exact h
theorem cnt_part {many : Int} {k : Nat} {w : We} {ds : List PyData} {x : PyData} (hx : x ∈ partsD (wsh w) ds) (h0 : cntE many k x = 0) : cntE many (k + 1) (.tuple (.str (wen w) :: ds)) = 0 := by
  rw [cntE_eq]
  split
  · exact addE_zero (List.mem_map.mpr ⟨x, hx, h0⟩)
  · rfl
theorem cnt_deep {many : Nat} : ∀ {k : Nat} {e : Ex}, ExOk many e → k < e.dep → cntE many k (toD e) = 0
  | 0, e, _, _ => by unfold cntE; rfl
  | k + 1, e, h, hd => by
    have key : ∃ y ∈ e.kids, k < y.dep := by
      cases e with
      | fig => exact absurd hd (by show ¬ (k + 1 < 1); omega)
      | reg => exact absurd hd (by show ¬ (k + 1 < 1); omega)
      | share => exact absurd hd (by show ¬ (k + 1 < 1); omega)
      | two w a b =>
        have hd : k + 1 < max a.dep b.dep + 1 := hd
        by_cases c : k < a.dep
        · exact ⟨a, by simp [Ex.kids], c⟩
        · exact ⟨b, by simp [Ex.kids], by omega⟩
      | times f a =>
        have hd : k + 1 < a.dep + 1 := hd
        exact ⟨a, by simp [Ex.kids], by omega⟩
      | «by» f a =>
        have hd : k + 1 < a.dep + 1 := hd
        exact ⟨a, by simp [Ex.kids], by omega⟩
      | when i c a b =>
        have hd : k + 1 < max a.dep b.dep + 1 := hd
        by_cases c : k < a.dep
        · exact ⟨a, by simp [Ex.kids], c⟩
        · exact ⟨b, by simp [Ex.kids], by omega⟩
      | whr i c a b =>
        have hd : k + 1 < max a.dep b.dep + 1 := hd
        by_cases c : k < a.dep
        · exact ⟨a, by simp [Ex.kids], c⟩
        · exact ⟨b, by simp [Ex.kids], by omega⟩
    obtain ⟨y, hy, hk⟩ := key
    rw [toD_eq]
    exact cnt_part (x := toD y) (by rw [itE_parts]; exact List.mem_map.mpr ⟨y, hy, rfl⟩) (cnt_deep (kids_ok e y h hy) hk)
/-! ### one thing sunk a level deeper -/
inductive Snk (many : Nat) (d : PyData) : PyData → Prop
  | times (i : Nat) (h : i < many) : Snk many d (.tuple [.str "times", .int (-(i : Int)), d])
  | «by» (i : Nat) (h : i < many) : Snk many d (.tuple [.str "by", .int (i : Int), d])
  | two1 (w : W4) (l : Ex) (h : ExOk many l) (hl : l.dep ≤ 1) : Snk many d (.tuple [.str (wn w), toD l, d])
  | two2 (w : W4) (l : Ex) (h : ExOk many l) (hl : l.dep ≤ 1) : Snk many d (.tuple [.str (wn w), d, toD l])
  | when (i : Nat) (c : Int) (l : Ex) (hi : i < many) (h1 : -1000 ≤ c) (h2 : c ≤ 1000) (h : ExOk many l) (hl : l.dep ≤ 1) : Snk many d (.tuple [.str "when", .int (i : Int), .int c, toD l, d])
  | whr (i : Nat) (c : Int) (l : Ex) (hi : i < many) (h1 : 1 ≤ c) (h2 : c ≤ 1000) (h : ExOk many l) (hl : l.dep ≤ 1) : Snk many d (.tuple [.str "where", .int (i : Int), .int c, d, toD l])
theorem leaf_size {l : Ex} (h : l.dep ≤ 1) : l.size = 1 ∧ l.dep = 1 := by
  cases l with
  | fig => exact ⟨rfl, rfl⟩
  | reg => exact ⟨rfl, rfl⟩
  | share => exact ⟨rfl, rfl⟩
  | two w a b => exact absurd h (by have := dep_pos' a; show ¬ (max a.dep b.dep + 1 ≤ 1); omega)
  | times f a => exact absurd h (by have := dep_pos' a; show ¬ (a.dep + 1 ≤ 1); omega)
  | «by» f a => exact absurd h (by have := dep_pos' a; show ¬ (a.dep + 1 ≤ 1); omega)
  | when i c a b => exact absurd h (by have := dep_pos' a; show ¬ (max a.dep b.dep + 1 ≤ 1); omega)
  | whr i c a b => exact absurd h (by have := dep_pos' a; show ¬ (max a.dep b.dep + 1 ≤ 1); omega)
theorem snk_good {many : Nat} {e : Ex} {d2 : PyData} (hm : many ≤ 3) (h : Snk many (toD e) d2) (ho : ExOk many e) : ∃ e2, d2 = toD e2 ∧ ExOk many e2 ∧ e2.dep = e.dep + 1 ∧ e2.size ≤ e.size + 2 := by
  have hp := dep_pos' e
  cases h with
  | times i h => exact ⟨.times (-(i : Int)) e, rfl, ⟨⟨by omega, by omega⟩, ho⟩, rfl, by show 1 + e.size ≤ _; omega⟩
  | «by» i h => exact ⟨.by i e, rfl, ⟨by omega, ho⟩, rfl, by show 1 + e.size ≤ _; omega⟩
  | two1 w l h hl =>
    obtain ⟨a1, a2⟩ := leaf_size hl
    exact ⟨.two w l e, rfl, ⟨h, ho⟩, by show max l.dep e.dep + 1 = _; omega, by show 1 + l.size + e.size ≤ _; omega⟩
  | two2 w l h hl =>
    obtain ⟨a1, a2⟩ := leaf_size hl
    exact ⟨.two w e l, rfl, ⟨ho, h⟩, by show max e.dep l.dep + 1 = _; omega, by show 1 + e.size + l.size ≤ _; omega⟩
  | when i c l hi h1 h2 h hl =>
    obtain ⟨a1, a2⟩ := leaf_size hl
    exact ⟨.when i c l e, rfl, ⟨by omega, ⟨h1, h2⟩, h, ho⟩, by show max l.dep e.dep + 1 = _; omega, by show 1 + l.size + e.size ≤ _; omega⟩
  | whr i c l hi h1 h2 h hl =>
    obtain ⟨a1, a2⟩ := leaf_size hl
    exact ⟨.whr i c e l, rfl, ⟨hi, ⟨h1, h2⟩, ho, h⟩, by show max e.dep l.dep + 1 = _; omega, by show 1 + e.size + l.size ≤ _; omega⟩
theorem snk_word {many : Nat} {d d2 : PyData} (h : Snk many d d2) : ∃ (w : We) (ds : List PyData), d2 = .tuple (.str (wen w) :: ds) ∧ d ∈ partsD (wsh w) ds ∧ ∀ x ∈ partsD (wsh w) ds, x = d ∨ ∃ l, x = toD l ∧ ExOk many l := by
  cases h with
  | times i h => exact ⟨.times, _, rfl, List.mem_cons_self .., fun x hx => .inl (List.mem_singleton.mp hx)⟩
  | «by» i h => exact ⟨.by, _, rfl, List.mem_cons_self .., fun x hx => .inl (List.mem_singleton.mp hx)⟩
  | two1 w l h hl =>
    refine ⟨.two w, [toD l, d], rfl, by cases w <;> exact List.mem_cons_of_mem _ (List.mem_cons_self ..), fun x hx => ?_⟩
    have hx : x ∈ [toD l, d] := by cases w <;> exact hx
    rcases List.mem_cons.mp hx with e | hx
    · exact .inr ⟨l, e, h⟩
    · exact .inl (List.mem_singleton.mp hx)
  | two2 w l h hl =>
    refine ⟨.two w, [d, toD l], rfl, by cases w <;> exact List.mem_cons_self .., fun x hx => ?_⟩
    have hx : x ∈ [d, toD l] := by cases w <;> exact hx
    rcases List.mem_cons.mp hx with e | hx
    · exact .inl e
    · exact .inr ⟨l, List.mem_singleton.mp hx, h⟩
  | when i c l hi h1 h2 h hl =>
    refine ⟨.when, [.int (i : Int), .int c, toD l, d], rfl, List.mem_cons_of_mem _ (List.mem_cons_self ..), fun x hx => ?_⟩
    have hx : x ∈ [toD l, d] := hx
    rcases List.mem_cons.mp hx with e | hx
    · exact .inr ⟨l, e, h⟩
    · exact .inl (List.mem_singleton.mp hx)
  | whr i c l hi h1 h2 h hl =>
    refine ⟨.whr, [.int (i : Int), .int c, d, toD l], rfl, List.mem_cons_self .., fun x hx => ?_⟩
    have hx : x ∈ [d, toD l] := hx
    rcases List.mem_cons.mp hx with e | hx
    · exact .inl e
    · exact .inr ⟨l, List.mem_singleton.mp hx, h⟩
theorem snk_bad {many : Nat} {d d2 : PyData} (h : Snk many d d2) (hb : ∀ k, cntE many k d = 0) : ∀ k, cntE many k d2 = 0 := by
  obtain ⟨w, ds, rfl, hd, _⟩ := snk_word h
  intro k
  cases k with
  | zero => unfold cntE; rfl
  | succ k => exact cnt_part hd (hb k)
theorem snk_wd {many : Nat} {d d2 : PyData} (h : Snk many d d2) (hw : ∀ k, wdE many k d) : ∀ k, wdE many k d2 := by
  obtain ⟨w, ds, rfl, _, hx⟩ := snk_word h
  intro k
  cases k with
  | zero => exact ⟨w, ds, rfl⟩
  | succ k =>
    refine ⟨w, ds, rfl, fun _ x hxm => ?_⟩
    rcases hx x hxm with e | ⟨l, e, ho⟩
    · rw [e]; exact hw k
    · rw [e]; exact wdE_of ho
/-- sunk so many times -/
inductive Snks (many : Nat) (d : PyData) : Nat → PyData → Prop
  | nil : Snks many d 0 d
  | step {n : Nat} {d1 d2 : PyData} (h : Snks many d n d1) (s : Snk many d1 d2) : Snks many d (n + 1) d2
theorem snks_good {many : Nat} {e : Ex} {n : Nat} {d2 : PyData} (hm : many ≤ 3) (h : Snks many (toD e) n d2) (ho : ExOk many e) : ∃ e2, d2 = toD e2 ∧ ExOk many e2 ∧ e2.dep = e.dep + n ∧ e2.size ≤ e.size + 2 * n := by
  induction h with
  | nil => exact ⟨e, rfl, ho, rfl, by omega⟩
  | step h s ih =>
    obtain ⟨e1, rfl, o1, p1, q1⟩ := ih
    obtain ⟨e2, rfl, o2, p2, q2⟩ := snk_good hm s o1
    exact ⟨e2, rfl, o2, by omega, by omega⟩
theorem snks_bad {many : Nat} {d : PyData} {n : Nat} {d2 : PyData} (h : Snks many d n d2) (hb : ∀ k, cntE many k d = 0) : ∀ k, cntE many k d2 = 0 := by
  induction h with
  | nil => exact hb
  | step h s ih => exact snk_bad s ih
theorem snks_wd {many : Nat} {d : PyData} {n : Nat} {d2 : PyData} (h : Snks many d n d2) (hw : ∀ k, wdE many k d) : ∀ k, wdE many k d2 := by
  induction h with
  | nil => exact hw
  | step h s ih => exact snk_wd s ih
/-! ### things of tuples alone -/
mutual
def tpo : PyData → Bool
  | .tuple ds => tpoAll ds
  | .int _ => true
  | .str _ => true
  | _ => false
def tpoAll : List PyData → Bool
  | [] => true
  | d :: ds => tpo d && tpoAll ds
end
mutual
theorem dp_imp {K : PySem.W.Frag} {H H' : Hp} (h : ∀ p xs, SqT K H p xs → SqT K H' p xs) : ∀ {d : PyData} {v : V}, tpo d = true → Dp K H v d → Dp K H' v d
  | .int _, _, _, x => by cases x; exact .int _
  | .str _, _, _, x => by cases x; exact .str _
  | .tuple ds, _, ht, x => by
    cases x with
    | tup q hA => exact .tup (h _ _ q) (dpall_imp h (by unfold tpo at ht; exact ht) hA)
  | .none, _, ht, _ => by unfold tpo at ht; cases ht
  | .bool _, _, ht, _ => by unfold tpo at ht; cases ht
  | .list _, _, ht, _ => by unfold tpo at ht; cases ht
  | .dict _, _, ht, _ => by unfold tpo at ht; cases ht
theorem dpall_imp {K : PySem.W.Frag} {H H' : Hp} (h : ∀ p xs, SqT K H p xs → SqT K H' p xs) : ∀ {ds : List PyData} {vs : List V}, tpoAll ds = true → DpAll K H vs ds → DpAll K H' vs ds
  | [], _, _, x => by cases x; exact .nil
  | d :: ds, _, ht, x => by
    unfold tpoAll at ht
    rw [Bool.and_eq_true] at ht
    cases x with
    | cons h1 h2 => exact .cons (dp_imp h ht.1 h1) (dpall_imp h ht.2 h2)
end
theorem dp_but {K : PySem.W.Frag} {H H' : Hp} {a : Addr} {n : Nat} (b : But a H H') (hh : HandAt H a n) {d : PyData} {v : V} (t : tpo d = true) (x : Dp K H v d) : Dp K H' v d := dp_imp (fun _ _ q => b.sq hh q) t x
theorem tpo_ex : ∀ e : Ex, tpo (toD e) = true
  | .fig _ => rfl
  | .reg _ => rfl
  | .share _ => rfl
  | .two w a b => by show (true && (tpo (toD a) && (tpo (toD b) && true))) = true; rw [tpo_ex a, tpo_ex b]; rfl
  | .times f a => by show (true && (true && (tpo (toD a) && true))) = true; rw [tpo_ex a]; rfl
  | .by i a => by show (true && (true && (tpo (toD a) && true))) = true; rw [tpo_ex a]; rfl
  | .when i c a b => by show (true && (true && (true && (tpo (toD a) && (tpo (toD b) && true))))) = true; rw [tpo_ex a, tpo_ex b]; rfl
  | .whr i c a b => by show (true && (true && (true && (tpo (toD a) && (tpo (toD b) && true))))) = true; rw [tpo_ex a, tpo_ex b]; rfl
theorem snk_tpo {many : Nat} {d d2 : PyData} (h : Snk many d d2) (t : tpo d = true) : tpo d2 = true := by
  cases h with
  | times i h => show (true && (true && (tpo d && true))) = true; rw [t]; rfl
  | «by» i h => show (true && (true && (tpo d && true))) = true; rw [t]; rfl
  | two1 w l h hl => show (true && (tpo (toD l) && (tpo d && true))) = true; rw [t, tpo_ex l]; rfl
  | two2 w l h hl => show (true && (tpo d && (tpo (toD l) && true))) = true; rw [t, tpo_ex l]; rfl
  | when i c l hi h1 h2 h hl => show (true && (true && (true && (tpo (toD l) && (tpo d && true))))) = true; rw [t, tpo_ex l]; rfl
  | whr i c l hi h1 h2 h hl => show (true && (true && (true && (tpo d && (tpo (toD l) && true))))) = true; rw [t, tpo_ex l]; rfl
theorem snks_tpo {many : Nat} {d : PyData} {n : Nat} {d2 : PyData} (h : Snks many d n d2) (t : tpo d = true) : tpo d2 = true := by
  induction h with
  | nil => exact t
  | step h s ih => exact snk_tpo s ih
/-! ### what is_expression says of them -/
theorem isEx_of {many : Nat} {e : Ex} (h : ExOk many e) : isEx many (toD e) = decide (e.dep ≤ 8 ∧ e.size ≤ 40) := by
  unfold isEx
  by_cases c : e.dep ≤ 8
  · rw [cntE_of h c]
    have := size_pos e
    by_cases c2 : e.size ≤ 40
    · rw [decide_eq_true (show 1 ≤ e.size by omega), decide_eq_true c2, decide_eq_true ⟨c, c2⟩]
      rfl
    · rw [decide_eq_false c2, decide_eq_false (show ¬ (e.dep ≤ 8 ∧ e.size ≤ 40) from fun z => c2 z.2), Bool.and_false]
  · rw [cnt_deep h (by omega), decide_eq_false (show ¬ (e.dep ≤ 8 ∧ e.size ≤ 40) from fun z => c z.1)]
    rfl
theorem isEx_bad {many : Nat} {d : PyData} (h : ∀ k, cntE many k d = 0) : isEx many d = false := by
  unfold isEx
  rw [h 8]
  rfl
end NG

namespace NG
open PySem PySem.Spec PyProof.Rows L2
def topS (i : Nat) : Stmt := PySem.Challenge.pw_nonegrowsrich_k04_expressions_at_their_b.main.body.getD i (.Pass ⟨0, 0, 0, 0⟩)
abbrev s_is_number : Stmt := topS 1
abbrev N_is_number : List Str := ["thing"]
theorem sc_is_number : FnScope ["thing"] ["thing"] (defScope s_is_number) := ⟨rfl, rfl, rfl, by decide +kernel, rfl, by decide +kernel, by decide +kernel⟩
abbrev s_is_within : Stmt := topS 2
abbrev N_is_within : List Str := ["thing", "low", "high"]
theorem sc_is_within : FnScope ["thing", "low", "high"] ["thing", "low", "high"] (defScope s_is_within) := ⟨rfl, rfl, rfl, by decide +kernel, rfl, by decide +kernel, by decide +kernel⟩
abbrev s_fits : Stmt := topS 8
abbrev N_fits : List Str := ["kind", "thing", "many", "low", "high"]
theorem sc_fits : FnScope ["kind", "thing", "many", "low", "high"] ["kind", "thing", "many"] (defScope s_fits) := ⟨rfl, rfl, rfl, by decide +kernel, rfl, by decide +kernel, by decide +kernel⟩
abbrev s_first_word : Stmt := topS 9
abbrev N_first_word : List Str := ["thing"]
theorem sc_first_word : FnScope ["thing"] ["thing"] (defScope s_first_word) := ⟨rfl, rfl, rfl, by decide +kernel, rfl, by decide +kernel, by decide +kernel⟩
abbrev s_fits_shape : Stmt := topS 10
abbrev N_fits_shape : List Str := ["thing", "shape", "many", "kind", "item"]
theorem sc_fits_shape : FnScope ["thing", "shape", "many", "kind", "item"] ["thing", "shape", "many"] (defScope s_fits_shape) := ⟨rfl, rfl, rfl, by decide +kernel, rfl, by decide +kernel, by decide +kernel⟩
abbrev s_has_shape : Stmt := topS 11
abbrev N_has_shape : List Str := ["thing", "many", "word"]
theorem sc_has_shape : FnScope ["thing", "many", "word"] ["thing", "many"] (defScope s_has_shape) := ⟨rfl, rfl, rfl, by decide +kernel, rfl, by decide +kernel, by decide +kernel⟩
abbrev s_parts : Stmt := topS 12
abbrev N_parts : List Str := ["expression", "shape", "kind", "item"]
theorem sc_parts : FnScope ["expression", "shape", "kind", "item"] ["expression"] (defScope s_parts) := ⟨rfl, rfl, rfl, by decide +kernel, rfl, by decide +kernel, by decide +kernel⟩
abbrev s_count_parts : Stmt := topS 13
abbrev N_count_parts : List Str := ["thing", "many", "deep", "total", "part", "inside"]
theorem sc_count_parts : FnScope ["thing", "many", "deep", "total", "part", "inside"] ["thing", "many", "deep"] (defScope s_count_parts) := ⟨rfl, rfl, rfl, by decide +kernel, rfl, by decide +kernel, by decide +kernel⟩
abbrev s_is_expression : Stmt := topS 14
abbrev N_is_expression : List Str := ["thing", "many"]
theorem sc_is_expression : FnScope ["thing", "many"] ["thing", "many"] (defScope s_is_expression) := ⟨rfl, rfl, rfl, by decide +kernel, rfl, by decide +kernel, by decide +kernel⟩
abbrev s_L_hand : Stmt := topS 16
abbrev N_L_hand : List Str := ["_law_script", "_law_k", "_law_cell", "_law_great"]
theorem sc_L_hand : FnScope ["_law_script", "_law_k", "_law_cell", "_law_great"] ["_law_script", "_law_k"] (defScope s_L_hand) := ⟨rfl, rfl, rfl, by decide +kernel, rfl, by decide +kernel, by decide +kernel⟩
abbrev s_L_take : Stmt := topS 17
abbrev N_L_take : List Str := ["_law_hand_here", "_law_signs", "_law_digit", "_law_primes", "_law_prime", "_law_drawn"]
theorem sc_L_take : FnScope ["_law_hand_here", "_law_signs", "_law_digit", "_law_primes", "_law_prime", "_law_drawn"] ["_law_hand_here", "_law_signs"] (defScope s_L_take) := ⟨rfl, rfl, rfl, by decide +kernel, rfl, by decide +kernel, by decide +kernel⟩
abbrev s_L_of : Stmt := topS 18
abbrev N_L_of : List Str := ["_law_hand_here", "_law_some"]
theorem sc_L_of : FnScope ["_law_hand_here", "_law_some"] ["_law_hand_here", "_law_some"] (defScope s_L_of) := ⟨rfl, rfl, rfl, by decide +kernel, rfl, by decide +kernel, by decide +kernel⟩
abbrev s_L_figure : Stmt := topS 19
abbrev N_L_figure : List Str := ["_law_hand_here", "_law_some"]
theorem sc_L_figure : FnScope ["_law_hand_here", "_law_some"] ["_law_hand_here"] (defScope s_L_figure) := ⟨rfl, rfl, rfl, by decide +kernel, rfl, by decide +kernel, by decide +kernel⟩
abbrev s_L_leaf : Stmt := topS 20
abbrev N_L_leaf : List Str := ["_law_hand_here", "_law_signs", "_law_sort"]
theorem sc_L_leaf : FnScope ["_law_hand_here", "_law_signs", "_law_sort"] ["_law_hand_here", "_law_signs"] (defScope s_L_leaf) := ⟨rfl, rfl, rfl, by decide +kernel, rfl, by decide +kernel, by decide +kernel⟩
abbrev s_L_expression : Stmt := topS 21
abbrev N_L_expression : List Str := ["_law_hand_here", "_law_signs", "_law_level", "_law_jumps", "_law_words", "_law_word", "_law_one", "_law_other", "_law_figure_here"]
theorem sc_L_expression : FnScope ["_law_hand_here", "_law_signs", "_law_level", "_law_jumps", "_law_words", "_law_word", "_law_one", "_law_other", "_law_figure_here"] ["_law_hand_here", "_law_signs", "_law_level", "_law_jumps"] (defScope s_L_expression) := ⟨rfl, rfl, rfl, by decide +kernel, rfl, by decide +kernel, by decide +kernel⟩
abbrev s_L_sized : Stmt := topS 22
abbrev N_L_sized : List Str := ["_law_hand_here", "_law_signs", "_law_size", "_law_word", "_law_first", "_law_one", "_law_other"]
theorem sc_L_sized : FnScope ["_law_hand_here", "_law_signs", "_law_size", "_law_word", "_law_first", "_law_one", "_law_other"] ["_law_hand_here", "_law_signs", "_law_size"] (defScope s_L_sized) := ⟨rfl, rfl, rfl, by decide +kernel, rfl, by decide +kernel, by decide +kernel⟩
abbrev s_L_sunk : Stmt := topS 23
abbrev N_L_sunk : List Str := ["_law_hand_here", "_law_signs", "_law_inner", "_law_times", "_law_turn", "_law_leaf_here", "_law_at", "_law_some"]
theorem sc_L_sunk : FnScope ["_law_hand_here", "_law_signs", "_law_inner", "_law_times", "_law_turn", "_law_leaf_here", "_law_at", "_law_some"] ["_law_hand_here", "_law_signs", "_law_inner", "_law_times"] (defScope s_L_sunk) := ⟨rfl, rfl, rfl, by decide +kernel, rfl, by decide +kernel, by decide +kernel⟩
abbrev s_L_edges : Stmt := topS 24
abbrev N_L_edges : List Str := ["_law_signs", "_law_leaf_here", "_law_found", "_law_part", "_law_is_in"]
theorem sc_L_edges : FnScope ["_law_signs", "_law_leaf_here", "_law_found", "_law_part", "_law_is_in"] ["_law_signs"] (defScope s_L_edges) := ⟨rfl, rfl, rfl, by decide +kernel, rfl, by decide +kernel, by decide +kernel⟩
abbrev s_L_told_so : Stmt := topS 25
abbrev N_L_told_so : List Str := ["_law_item", "_law_signs", "_law_due"]
theorem sc_L_told_so : FnScope ["_law_item", "_law_signs", "_law_due"] ["_law_item", "_law_signs", "_law_due"] (defScope s_L_told_so) := ⟨rfl, rfl, rfl, by decide +kernel, rfl, by decide +kernel, by decide +kernel⟩
abbrev s_law : Stmt := topS 26
abbrev N_law : List Str := ["_law_script", "_law_k", "_law_hand_here", "_law_signs", "_law_size", "_law_deep", "_law_made", "_law_item", "_law_due", "_law_sunk_here"]
theorem sc_law : FnScope ["_law_script", "_law_k", "_law_hand_here", "_law_signs", "_law_size", "_law_deep", "_law_made", "_law_item", "_law_due", "_law_sunk_here"] ["_law_script"] (defScope s_law) := ⟨rfl, rfl, rfl, by decide +kernel, rfl, by decide +kernel, by decide +kernel⟩

end NG

namespace NG
open PySem PySem.Spec PyProof.Rows L2
section
variable {P : Program} {w : World} {K : PySem.W.Frag} {mg : Str → Option Value} {base : Heap}
theorem primes_at {m : Int} (h : 0 ≤ m) : ∃ p : Int, atI ([.int 2147483647, .int 2147483629, .int 2147483587, .int 2147483579, .int 2147483563, .int 2147483549, .int 2147483543, .int 2147483497] : List V) (m % 8) = some (.int p) ∧ 1000 < p ∧ p < 2147483648 := by
  have h1 : m % 8 = 0 ∨ m % 8 = 1 ∨ m % 8 = 2 ∨ m % 8 = 3 ∨ m % 8 = 4 ∨ m % 8 = 5 ∨ m % 8 = 6 ∨ m % 8 = 7 := by omega
  rcases h1 with e | e | e | e | e | e | e | e <;> rw [e] <;> exact ⟨_, rfl, by decide, by decide⟩
theorem ok_take {f : Addr} {fd : FuncData} (F : Fun K "_law_take" "_law_take" s_L_take f fd) (gF : mg "_law_take" = some (.ref f)) (b : Binds K fd ["_law_hand_here", "_law_signs"] []) : Cal P w K mg base 1 "_law_take" spTake := by
  refine ⟨f, fd, _, F.ok sc_L_take (fun vs H Q E h => ?_) (fun cdv A outer s H vs Q E hr h => ?_), gF, F.kp, b⟩
  · obtain ⟨a, m, n, rfl, _⟩ := h
    rfl
  · obtain ⟨a, many, n, rfl, hm, hm2, ⟨g, sd, m, e, hg, hs, h0, hn⟩, hN, q⟩ := h
    refine ⟨_, (pss_cons (ps_if (pt_cmpR op_gt (pe_ix ix_list (pv 0) pe_int (fun _ _ => rfl)) pe_int (nomark _)) (pss_cons (ps_set (i := 2) sc_L_take.nd rfl (.inl rfl) (pe_op op_mod (pe_ix ix_list (pv 0) pe_int (fun _ _ => rfl)) (pv 1))) (pss_cons (ps_asg (pe_op op_fdivW (pe_ix ix_list (pv 0) pe_int (fun _ _ => rfl)) (pv 1)) (pg_sub (pv 0) pe_int set_list)) (pss_one (ps_ret (pv 2))))) pss_nil) (pss_cons (ps_asg (pe_op op_add (pe_ix ix_list (pv 0) pe_int (fun _ _ => rfl)) pe_int) (pg_sub (pv 0) pe_int set_list)) (pss_cons (ps_set (i := 3) sc_L_take.nd rfl (.inl rfl) (pe_lst (pa_cons pe_int (pa_cons pe_int (pa_cons pe_int (pa_cons pe_int (pa_cons pe_int (pa_cons pe_int (pa_cons pe_int (pa_cons pe_int pa_nil)))))))))) (pss_cons (ps_set (i := 4) sc_L_take.nd rfl (.inl rfl) (pe_ix ix_list (pv 3) (pe_op op_mod (pe_ix ix_list (pv 0) pe_int (fun _ _ => rfl)) pe_int) (fun _ _ => rfl))) (pss_cons (ps_set (i := 5) sc_L_take.nd rfl (.inl rfl) (pe_op op_add (pe_op op_mod (pe_op op_mod (pe_op op_add (pe_ix ix_list (pv 0) pe_int (fun _ _ => rfl)) (pe_op op_mul (pe_op op_mul pe_int (pe_ix ix_list (pv 0) pe_int (fun _ _ => rfl))) (pe_ix ix_list (pv 0) pe_int (fun _ _ => rfl)))) (pe_op op_pow (pv 4) pe_int)) (pv 4)) pe_int)) (pss_one (ps_ret (pe_op op_mod (pe_op op_fdiv (pe_op op_mod (pe_op op_mul (pv 5) (pe_op op_add (pe_op op_mod (pv 5) pe_int) (pe_ix ix_list (pv 0) pe_int (fun _ _ => rfl)))) (pv 4)) pe_int) (pv 1))))))))), ?_⟩
    refine ⟨.ref a, rfl, a, _, 0, .int g, rfl, rfl, SqL.of e, rfl, g, 0, rfl, rfl, _, rfl, iteD (fun c => ?_) (fun c => ?_)⟩
    · refine ⟨.ref a, rfl, a, _, 0, .int g, rfl, rfl, SqL.of e, rfl, .int many, rfl, g, many, rfl, rfl, hm, ?_⟩
      refine ⟨.ref a, rfl, a, _, 0, .int g, rfl, rfl, SqL.of e, rfl, .int many, rfl, g, many, rfl, rfl, wide_div (b := 62) hm (by omega) (by decide) (by decide), ?_⟩
      refine ⟨.ref a, rfl, a, _, 0, 0, rfl, rfl, e, rfl, ?_⟩
      refine ⟨.int (g % many), rfl, q _ _ But.put ?_ (Int.emod_nonneg _ (by omega)) (Int.emod_lt_of_pos _ hm)⟩
      exact ⟨g / many, sd, m, upd_same, Int.ediv_nonneg hg (by omega), hs, h0, by omega⟩
    · refine ⟨.ref a, rfl, a, _, 2, .int m, rfl, rfl, SqL.of e, rfl, m, 1, rfl, rfl, ?_⟩
      refine ⟨.ref a, rfl, a, _, 2, 2, rfl, rfl, e, rfl, ?_⟩
      have e1 : (upd H a (.lst [.int g, .int sd, .int (m + 1)])) a = some (.lst [.int g, .int sd, .int (m + 1)]) := upd_same
      refine ⟨by decide, fun p np => ?_⟩
      have npa : p ≠ a := (ne_of_none e1 np).symm
      obtain ⟨pr, hat, hp1, hp2⟩ := primes_at (m := m + 1) (by omega)
      have e2 : (upd (upd H a (.lst [.int g, .int sd, .int (m + 1)])) p (.lst [.int 2147483647, .int 2147483629, .int 2147483587, .int 2147483579, .int 2147483563, .int 2147483549, .int 2147483543, .int 2147483497])) a = some (.lst [.int g, .int sd, .int (m + 1)]) := by rw [upd_ne npa.symm]; exact e1
      have e3 : (upd (upd H a (.lst [.int g, .int sd, .int (m + 1)])) p (.lst [.int 2147483647, .int 2147483629, .int 2147483587, .int 2147483579, .int 2147483563, .int 2147483549, .int 2147483543, .int 2147483497])) p = some (.lst [.int 2147483647, .int 2147483629, .int 2147483587, .int 2147483579, .int 2147483563, .int 2147483549, .int 2147483543, .int 2147483497]) := upd_same
      refine ⟨.ref p, rfl, .ref a, rfl, a, _, 2, .int (m + 1), rfl, rfl, SqL.of e2, rfl, m + 1, 8, rfl, rfl, (by show (0 : Int) < 8; decide), p, _, (m + 1) % 8, .int pr, rfl, rfl, SqL.of e3, hat, ?_⟩
      have hsq : (0 : Int) < pr ^ (2 : Int).toNat := by
        show 0 < pr ^ 2
        exact Int.pow_pos (by omega)
      refine ⟨.ref a, rfl, a, _, 1, .int sd, rfl, rfl, SqL.of e2, rfl, .ref a, rfl, a, _, 2, .int (m + 1), rfl, rfl, SqL.of e2, rfl, 69621, m + 1, rfl, rfl, .inl ⟨by decide, by decide⟩, .ref a, rfl, a, _, 2, .int (m + 1), rfl, rfl, SqL.of e2, rfl, _, _, rfl, rfl, .inr ⟨by omega, by omega⟩, _, _, rfl, rfl,
        .int pr, rfl, pr, 2, rfl, rfl, ⟨by decide, by decide, by omega⟩, _, _, rfl, rfl, hsq, .int pr, rfl, _, pr, rfl, rfl, (by show 0 < pr; omega), _, 1, rfl, rfl, ?_⟩
      generalize hz : (sd + 69621 * (m + 1) * (m + 1)) % pr ^ (2 : Int).toNat % pr = z
      have hz0 : 0 ≤ z := by rw [← hz]; exact Int.emod_nonneg _ (by omega)
      have hz1 : z < pr := by rw [← hz]; exact Int.emod_lt_of_pos _ (by omega)
      refine ⟨.int (z + 1), rfl, .int (z + 1), rfl, z + 1, 1009, rfl, rfl, (by show (0 : Int) < 1009; decide), .ref a, rfl, a, _, 2, .int (m + 1), rfl, rfl, SqL.of e2, rfl, _, _, rfl, rfl, z + 1, _, rfl, rfl, .inl ⟨by omega, by omega⟩, .int pr, rfl, _, pr, rfl, rfl, (by show 0 < pr; omega), _, 7, rfl, rfl, ⟨by decide, by decide⟩, .int many, rfl, _, many, rfl, rfl, hm, ?_⟩
      refine q _ _ ?_ ⟨g, sd, m + 1, e2, hg, hs, by omega, by omega⟩ (Int.emod_nonneg _ (by omega)) (Int.emod_lt_of_pos _ hm)
      exact But.put.trans (But.new np)
end
end NG

namespace NG
open PySem PySem.Spec PyProof.Rows L2
section
variable {P : Program} {w : World} {K : PySem.W.Frag} {mg : Str → Option Value} {base : Heap}
theorem ok_hand {f : Addr} {fd : FuncData} (F : Fun K "_law_hand" "_law_hand" s_L_hand f fd) (gF : mg "_law_hand" = some (.ref f)) (b : Binds K fd ["_law_script", "_law_k"] []) (B : Bl mg) : Cal P w K mg base 1 "_law_hand" (spHand K) := by
  refine ⟨f, fd, _, F.ok sc_L_hand (fun vs H Q E h => ?_) (fun cdv A outer s H vs Q E hr h => ?_), gF, F.kp, b⟩
  · obtain ⟨a, m, n, rfl, _⟩ := h
    rfl
  · obtain ⟨a, k, ns, rfl, hk0, hk1, hS, q⟩ := h
    refine ⟨_, (pss_cons (ps_set (i := 2) sc_L_hand.nd rfl (.inl rfl) (pe_cut (pe_ifExp (pt_cmpR op_lt (pv 1) (pe_callB call_len_seq (by rfl) B.len PySem.boot_len (pa_cons (pv 0) pa_nil)) (nomark _)) (pe_ix ix_list (pv 0) (pv 1) (fun _ _ => rfl)) pe_int))) (pss_cons (ps_set (i := 3) sc_L_hand.nd rfl (.inl rfl) (pe_op op_mul (pe_op op_mod (pe_callB call_abs (by rfl) B.abs (by decide +kernel) (pa_cons (pv 2) pa_nil)) (pe_op op_mulW (pe_op op_pow pe_int pe_int) (pe_op op_pow pe_int pe_int))) (pe_callTy call_int1 (by rfl) B.int (by decide +kernel) (pa_cons (pe_cmpR op_ge (pe_callB call_abs (by rfl) B.abs (by decide +kernel) (pa_cons (pv 2) pa_nil)) (pe_op op_pow pe_int pe_int) (nomark _)) pa_nil)))) (pss_one (ps_ret (pe_lst (pa_cons (pv 3) (pa_cons (pe_op op_add (pe_op op_add (pe_op op_mod (pv 2) pe_int) (pe_op op_mul pe_int (pv 1))) pe_int) (pa_cons pe_int pa_nil)))))))), ?_⟩
    refine ⟨fun v H' => H' = H ∧ ∃ c : Int, v = .int c, ?_, fun v H' hv => ?_⟩
    · refine ⟨.int k, rfl, .ref a, rfl, a, _, rfl, .inl hS, k, _, rfl, rfl, _, rfl, iteD (fun c => ?_) (fun c => ?_)⟩
      · exact ⟨.ref a, rfl, .int k, rfl, a, _, k, _, rfl, rfl, hS, at_int hk0 (by rw [List.length_map] at c; exact c), rfl, _, rfl⟩
      · exact ⟨rfl, 0, rfl⟩
    · obtain ⟨rfl, c, rfl⟩ := hv
      refine ⟨.int c, rfl, c, rfl, 10, 60, rfl, rfl, ⟨by decide, by decide, by decide⟩, 10, 60, rfl, rfl, ⟨by decide, by decide, by decide⟩, _, _, rfl, rfl, wide_mul (a := 300) (b := 300) (by decide) (by decide) (by decide) (by decide) (by decide), _, _, rfl, rfl, (by show (0 : Int) < 10 ^ 60 * 10 ^ 60; decide), ?_⟩
      refine ⟨.int c, rfl, c, rfl, 10, 18, rfl, rfl, ⟨by decide, by decide, by decide⟩, _, _, rfl, rfl, .inr ⟨_, rfl, ?_⟩⟩
      have h01 : ∀ z : Bool, (0 : Int) ≤ (if z = true then 1 else 0) ∧ (if z = true then (1 : Int) else 0) ≤ 1 := by
        intro z
        cases z <;> decide
      refine ⟨_, _, rfl, rfl, .inr ⟨by have := h01 (decide ((10 : Int) ^ (18 : Int).toNat ≤ if c < 0 then -c else c)); omega, by have := h01 (decide ((10 : Int) ^ (18 : Int).toNat ≤ if c < 0 then -c else c)); omega⟩, ?_⟩
      refine ⟨_, rfl, .int c, rfl, c, 2305843009213693951, rfl, rfl, (by show (0 : Int) < 2305843009213693951; decide), .int k, rfl, 104729, k, rfl, rfl, .inl ⟨by decide, by decide⟩, _, _, rfl, rfl, _, 7, rfl, rfl, (by show 3 ≤ sizeLine; decide), fun p np => ?_⟩
      refine q p _ _ np (Int.mul_nonneg (Int.emod_nonneg _ (by show (10 : Int) ^ 60 * 10 ^ 60 ≠ 0; decide)) (h01 _).1) ?_
      have : 0 ≤ c % 2305843009213693951 := Int.emod_nonneg _ (by decide)
      omega
theorem ok_of {f : Addr} {fd : FuncData} (F : Fun K "_law_of" "_law_of" s_L_of f fd) (gF : mg "_law_of" = some (.ref f)) (b : Binds K fd ["_law_hand_here", "_law_some"] []) (B : Bl mg) (c_L_take : Cal P w K mg base 1 "_law_take" spTake) : Cal P w K mg base 2 "_law_of" (spOf K) := by
  refine ⟨f, fd, _, F.ok sc_L_of (fun vs H Q E h => ?_) (fun cdv A outer s H vs Q E hr h => ?_), gF, F.kp, b⟩
  · obtain ⟨a, m, n, _, rfl, _⟩ := h
    rfl
  · obtain ⟨a, l, xs, n, rfl, hal, hl, h0, h1, hh, hn, q⟩ := h
    refine ⟨_, (pss_one (ps_ret (pe_ix ix_list (pv 1) (pe_c c_L_take hr (by omega) (by rfl) (pa_cons (pv 0) (pa_cons (pe_callB call_len_seq (by rfl) B.len PySem.boot_len (pa_cons (pv 1) pa_nil)) pa_nil))) (fun _ _ => rfl)))), ?_⟩
    refine ⟨.ref l, rfl, .ref a, rfl, .ref l, rfl, l, _, rfl, .inl (SqL.of hl), ?_⟩
    refine ⟨a, _, n, rfl, by omega, by omega, hh, hn, fun H' r bt hh' r0 r1 => ?_⟩
    have hl' : H' l = some (.lst xs) := bt _ _ (Ne.symm hal) hl
    obtain ⟨v, hv, hm⟩ := at_mem (xs := xs) r0 r1
    exact ⟨l, _, r, v, rfl, rfl, SqL.of hl', hv, q _ _ bt hh' hm⟩
theorem ok_figure {f : Addr} {fd : FuncData} (F : Fun K "_law_figure" "_law_figure" s_L_figure f fd) (gF : mg "_law_figure" = some (.ref f)) (b : Binds K fd ["_law_hand_here"] []) (B : Bl mg) (c_L_take : Cal P w K mg base 1 "_law_take" spTake) (c_L_of : Cal P w K mg base 2 "_law_of" (spOf K)) : Cal P w K mg base 3 "_law_figure" spFigure := by
  refine ⟨f, fd, _, F.ok sc_L_figure (fun vs H Q E h => ?_) (fun cdv A outer s H vs Q E hr h => ?_), gF, F.kp, b⟩
  · obtain ⟨a, m, rfl, _⟩ := h
    rfl
  · obtain ⟨a, n, rfl, hh, hn, q⟩ := h
    refine ⟨_, (pss_cons (ps_set (i := 1) sc_L_figure.nd rfl (.inl rfl) (pe_lst (pa_cons pe_int (pa_cons pe_int (pa_cons (pe_un un_neg pe_int) (pa_cons pe_int (pa_cons pe_int (pa_cons pe_int (pa_cons pe_int (pa_cons (pe_un un_neg pe_int) (pa_cons pe_int (pa_cons (pe_un un_neg pe_int) pa_nil)))))))))))) (pss_one (ps_ret (pe_c c_L_of hr (by omega) (by rfl) (pa_cons (pv 0) (pa_cons (pe_op op_cat (pv 1) (pe_lst (pa_cons (pe_op op_sub (pe_c c_L_take hr (by omega) (by rfl) (pa_cons (pv 0) (pa_cons pe_int pa_nil))) pe_int) (pa_cons (pe_op op_sub (pe_c c_L_take hr (by omega) (by rfl) (pa_cons (pv 0) (pa_cons pe_int pa_nil))) pe_int) pa_nil)))) pa_nil)))))), ?_⟩
    refine ⟨_, rfl, _, rfl, _, rfl, (by show 10 ≤ sizeLine; decide), fun l nl => ?_⟩
    have hla := hh.ne nl
    have hl : (upd H l (.lst [.int 0, .int 1, .int (-1), .int 50, .int 100, .int 250, .int 500, .int (-500), .int 1000, .int (-1000)])) l = _ := upd_same
    refine ⟨.ref a, rfl, .ref l, rfl, .ref a, rfl, a, 2001, n, rfl, by decide, by decide, hh.new nl, by omega, fun H1 r1 b1 hh1 r10 r11 => ⟨_, _, rfl, rfl, ?_⟩⟩
    refine ⟨.ref a, rfl, a, 201, n + 1, rfl, by decide, by decide, hh1, by omega, fun H2 r2 b2 hh2 r20 r21 => ⟨_, _, rfl, rfl, ?_⟩⟩
    refine ⟨(by show 2 ≤ sizeLine; decide), fun l2 nl2 => ?_⟩
    have hl2a := hh2.ne nl2
    have e1 : H2 l = some (.lst [.int 0, .int 1, .int (-1), .int 50, .int 100, .int 250, .int 500, .int (-500), .int 1000, .int (-1000)]) := b2 _ _ hla (b1 _ _ hla hl)
    refine ⟨l, l2, _, _, rfl, rfl, by rw [upd_ne (ne_of_none e1 nl2)]; exact e1, upd_same, (by show 12 ≤ sizeLine; decide), fun l3 nl3 => ?_⟩
    have hh3 := (hh2.new (o := .lst [.int (r1 - 1000), .int (r2 - 100)]) nl2)
    refine ⟨a, l3, _, n + 2, rfl, (hh3.ne nl3).symm, upd_same, (by show 0 < 12; decide), (by show 12 ≤ 1000; decide), hh3.new nl3, by omega, fun H4 v b4 hh4 hv => ?_⟩
    have bb : But a H H4 := (((((But.new nl).trans b1).trans b2).trans (But.new nl2)).trans (But.new nl3)).trans b4
    have key : ∃ c : Int, v = .int c ∧ -1000 ≤ c ∧ c ≤ 1000 := by
      simp only [List.cons_append, List.nil_append, List.mem_cons, List.not_mem_nil, or_false] at hv
      rcases hv with rfl | rfl | rfl | rfl | rfl | rfl | rfl | rfl | rfl | rfl | rfl | rfl
      all_goals exact ⟨_, rfl, by omega, by omega⟩
    obtain ⟨c, rfl, c0, c1⟩ := key
    exact q _ _ bb hh4 c0 c1
end
end NG

namespace NG
open PySem PySem.Spec PyProof.Rows L2
section
variable {P : Program} {w : World} {K : PySem.W.Frag} {mg : Str → Option Value} {base : Heap}
theorem ok_leaf {f : Addr} {fd : FuncData} (F : Fun K "_law_leaf" "_law_leaf" s_L_leaf f fd) (gF : mg "_law_leaf" = some (.ref f)) (b : Binds K fd ["_law_hand_here", "_law_signs"] []) (B : Bl mg) (c_L_take : Cal P w K mg base 1 "_law_take" spTake) (c_L_figure : Cal P w K mg base 3 "_law_figure" spFigure) : Cal P w K mg base 4 "_law_leaf" (spLeaf K) := by
  refine ⟨f, fd, _, F.ok sc_L_leaf (fun vs H Q E h => ?_) (fun cdv A outer s H vs Q E hr h => ?_), gF, F.kp, b⟩
  · obtain ⟨_, _, _, rfl, _⟩ := h
    rfl
  · obtain ⟨a, many, n, rfl, hm1, hm2, hh, hn, q⟩ := h
    refine ⟨_, (pss_cons (ps_set (i := 2) sc_L_leaf.nd rfl (.inl rfl) (pe_c c_L_take hr (by omega) (by rfl) (pa_cons (pv 0) (pa_cons pe_int pa_nil)))) (pss_cons (ps_if (pt_cmpR op_eq (pv 2) pe_int (nomark _)) (pss_one (ps_ret (pe_tup (pa_cons pe_str (pa_cons (pe_c c_L_take hr (by omega) (by rfl) (pa_cons (pv 0) (pa_cons pe_int pa_nil))) pa_nil))))) pss_nil) (pss_one (ps_ret (pe_ifExp (pt_cmpR op_eq (pv 2) pe_int (nomark _)) (pe_tup (pa_cons pe_str (pa_cons (pe_c c_L_figure hr (by omega) (by rfl) (pa_cons (pv 0) pa_nil)) pa_nil))) (pe_tup (pa_cons pe_str (pa_cons (pe_c c_L_take hr (by omega) (by rfl) (pa_cons (pv 0) (pa_cons (pv 1) pa_nil))) pa_nil)))))))), ?_⟩
    refine ⟨.ref a, rfl, a, 4, n, rfl, by decide, by decide, hh, by omega, fun H1 r b1 hh1 r0 r1 => ?_⟩
    refine ⟨.int r, rfl, rfl, _, rfl, iteD (fun c => ?_) (fun c => ?_)⟩
    · refine ⟨.ref a, rfl, a, 4, n + 1, rfl, by decide, by decide, hh1, by omega, fun H2 r2 b2 hh2 r20 r21 => ⟨(by show 2 ≤ sizeLine; decide), fun p np => ?_⟩⟩
      refine q _ _ (.reg r2.toNat) ((b1.trans b2).trans (But.new np)) ((hh2.new np).le (by omega)) ⟨p, rfl, ?_⟩ (by show r2.toNat < 4; omega) (Nat.le_refl _)
      rw [Int.toNat_of_nonneg r20]
      exact SqT.of upd_same
    · refine ⟨.int r, rfl, rfl, _, rfl, iteD (fun c => ?_) (fun c => ?_)⟩
      · refine ⟨.ref a, rfl, a, n + 1, rfl, hh1, by omega, fun H2 r2 b2 hh2 r20 r21 => ⟨(by show 2 ≤ sizeLine; decide), fun p np => ?_⟩⟩
        exact q _ _ (.fig r2) ((b1.trans b2).trans (But.new np)) ((hh2.new np).le (by omega)) ⟨p, rfl, SqT.of upd_same⟩ ⟨r20, r21⟩ (Nat.le_refl _)
      · refine ⟨.ref a, rfl, .int (many : Int), rfl, a, _, n + 1, rfl, by omega, by omega, hh1, by omega, fun H2 r2 b2 hh2 r20 r21 => ⟨(by show 2 ≤ sizeLine; decide), fun p np => ?_⟩⟩
        refine q _ _ (.share r2.toNat) ((b1.trans b2).trans (But.new np)) ((hh2.new np).le (by omega)) ⟨p, rfl, ?_⟩ (by show r2.toNat < many; omega) (Nat.le_refl _)
        rw [Int.toNat_of_nonneg r20]
        exact SqT.of upd_same
end
end NG

namespace NG
open PySem PySem.Spec PyProof.Rows L2
theorem wn_ne {o : W4} {s : Str} (h : s = "fig" ∨ s = "reg" ∨ s = "share" ∨ s = "times" ∨ s = "by" ∨ s = "when" ∨ s = "where") : decide (V.str (wn o) = V.str s) = false := by
  rcases h with rfl | rfl | rfl | rfl | rfl | rfl | rfl <;> cases o <;> decide
end NG

namespace NG
open PySem PySem.Spec PyProof.Rows L2
def szB : Nat → Nat
  | 0 => 0
  | 1 => 1
  | d + 2 => 2 ^ (d + 1) + 1
theorem szB_split {d s f : Nat} {r : Nat} (h : s ≤ szB d) (h3 : 3 ≤ s) (hr : r ≤ 1) (hf : f = (s - 1) / 2 - (if 5 < s then 1 else 0) * r) : 2 ≤ d ∧ 1 ≤ f ∧ 1 ≤ s - 1 - f ∧ f + 2 ≤ s ∧ f ≤ szB (d - 1) ∧ s - 1 - f ≤ szB (d - 1) := by
  match d, h with
  | 0, h => exact absurd h (by show ¬ (s ≤ 0); omega)
  | 1, h => exact absurd h (by show ¬ (s ≤ 1); omega)
  | 2, h =>
    have h : s ≤ 3 := h
    rw [if_neg (by omega)] at hf
    refine ⟨by omega, by omega, by omega, by omega, ?_, ?_⟩
    · show f ≤ 1; omega
    · show s - 1 - f ≤ 1; omega
  | d + 3, h =>
    have h : s ≤ 2 ^ (d + 2) + 1 := h
    have e : 2 ^ (d + 2) = 2 * 2 ^ (d + 1) := by rw [Nat.pow_succ, Nat.mul_comm]
    have p1 : 2 ≤ 2 ^ (d + 1) := by rw [Nat.pow_succ]; have := Nat.one_le_two_pow (n := d); omega
    rw [e] at h
    have key : f ≤ 2 ^ (d + 1) + 1 ∧ s - 1 - f ≤ 2 ^ (d + 1) + 1 ∧ 1 ≤ f ∧ 1 ≤ s - 1 - f ∧ f + 2 ≤ s := by
      generalize 2 ^ (d + 1) = M at *
      have hr2 : r = 0 ∨ r = 1 := by omega
      by_cases c : 5 < s
      · rw [if_pos c] at hf
        rcases hr2 with rfl | rfl <;> omega
      · rw [if_neg c] at hf
        omega
    exact ⟨by omega, key.2.2.1, key.2.2.2.1, key.2.2.2.2, key.1, key.2.1⟩
def spSized (K : PySem.W.Frag) (m : Nat) : Sp := fun vs H Q _ => ∃ (a : Addr) (many s n d : Nat), vs = [.ref a, .int (many : Int), .int (s : Int)] ∧ d ≤ m ∧ 1 ≤ s ∧ s ≤ szB d ∧ s ≤ 41 ∧ 1 ≤ many ∧ many ≤ 3 ∧ HandAt H a n ∧ n + 12 * s ≤ 999990000 ∧
  ∀ H' v e, But a H H' → HandAt H' a (n + 12 * s) → ExAt K H' e v → ExOk many e → e.size = s → e.dep ≤ d → Q v H'
section
variable {P : Program} {w : World} {K : PySem.W.Frag} {mg : Str → Option Value} {base : Heap}
theorem ok_sized {f : Addr} {fd : FuncData} (F : Fun K "_law_sized" "_law_sized" s_L_sized f fd) (gF : mg "_law_sized" = some (.ref f)) (b : Binds K fd ["_law_hand_here", "_law_signs", "_law_size"] []) (B : Bl mg) (c_L_take : Cal P w K mg base 1 "_law_take" spTake) (c_L_of : Cal P w K mg base 2 "_law_of" (spOf K)) (c_L_figure : Cal P w K mg base 3 "_law_figure" spFigure) (c_L_leaf : Cal P w K mg base 4 "_law_leaf" (spLeaf K)) : ∀ m, Cal P w K mg base (m + 4) "_law_sized" (spSized K m) := by
  intro m
  induction m with
  | zero =>
    refine cal_never F gF b fun vs H Q E h => ?_
    obtain ⟨_, _, s, _, d, _, hd, h1, h2, _⟩ := h
    have : d = 0 := by omega
    subst this
    exact absurd h2 (by show ¬ (s ≤ 0); omega)
  | succ m c_L_sized =>
  refine ⟨f, fd, _, F.ok sc_L_sized (fun vs H Q E h => ?_) (fun cdv A outer s H vs Q E hr h => ?_), gF, F.kp, b⟩
  · obtain ⟨_, _, _, _, _, rfl, _⟩ := h
    rfl
  · obtain ⟨a, many, s, n, d, rfl, hdm, hs1, hsd, hs41, hm1, hm2, hh, hn, q⟩ := h
    refine ⟨_, (pss_cons (ps_if (pt_cmpR op_eq (pv 2) pe_int (nomark _)) (pss_one (ps_ret (pe_c c_L_leaf hr (by omega) (by rfl) (pa_cons (pv 0) (pa_cons (pv 1) pa_nil))))) pss_nil) (pss_cons (ps_if (pt_cmpR op_eq (pv 2) pe_int (nomark _)) (pss_cons (ps_set (i := 3) sc_L_sized.nd rfl (.inl rfl) (pe_c c_L_of hr (by omega) (by rfl) (pa_cons (pv 0) (pa_cons (pe_lst (pa_cons pe_str (pa_cons pe_str pa_nil))) pa_nil)))) (pss_one (ps_ret (pe_tup (pa_cons (pv 3) (pa_cons (pe_c c_L_take hr (by omega) (by rfl) (pa_cons (pv 0) (pa_cons pe_int pa_nil))) (pa_cons (pe_c c_L_leaf hr (by omega) (by rfl) (pa_cons (pv 0) (pa_cons (pv 1) pa_nil))) pa_nil))))))) pss_nil) (pss_cons (ps_set (i := 4) sc_L_sized.nd rfl (.inl rfl) (pe_op op_sub (pe_op op_fdiv (pe_op op_sub (pv 2) pe_int) pe_int) (pe_op op_mul (pe_callTy call_int1 (by rfl) B.int (by decide +kernel) (pa_cons (pe_cmpR op_gt (pv 2) pe_int (nomark _)) pa_nil)) (pe_c c_L_take hr (by omega) (by rfl) (pa_cons (pv 0) (pa_cons pe_int pa_nil)))))) (pss_cons (ps_par (i := 5) (j := 6) rfl sc_L_sized.nd rfl rfl (by decide) rfl rfl (pa_cons (pe_c c_L_sized hr (by omega) (by rfl) (pa_cons (pv 0) (pa_cons (pv 1) (pa_cons (pv 4) pa_nil)))) (pa_cons (pe_c c_L_sized hr (by omega) (by rfl) (pa_cons (pv 0) (pa_cons (pv 1) (pa_cons (pe_op op_sub (pe_op op_sub (pv 2) pe_int) (pv 4)) pa_nil)))) pa_nil)) (by rfl)) (pss_cons (ps_set (i := 3) sc_L_sized.nd rfl (.inl rfl) (pe_c c_L_of hr (by omega) (by rfl) (pa_cons (pv 0) (pa_cons (pe_lst (pa_cons pe_str (pa_cons pe_str (pa_cons pe_str (pa_cons pe_str (pa_cons pe_str (pa_cons pe_str pa_nil))))))) pa_nil)))) (pss_cons (ps_if (pt_cmpR op_eq (pv 3) pe_str (nomark _)) (pss_one (ps_ret (pe_tup (pa_cons (pv 3) (pa_cons (pe_c c_L_take hr (by omega) (by rfl) (pa_cons (pv 0) (pa_cons pe_int pa_nil))) (pa_cons (pe_c c_L_figure hr (by omega) (by rfl) (pa_cons (pv 0) pa_nil)) (pa_cons (pv 5) (pa_cons (pv 6) pa_nil)))))))) pss_nil) (pss_cons (ps_if (pt_cmpR op_eq (pv 3) pe_str (nomark _)) (pss_one (ps_ret (pe_tup (pa_cons (pv 3) (pa_cons (pe_c c_L_take hr (by omega) (by rfl) (pa_cons (pv 0) (pa_cons (pv 1) pa_nil))) (pa_cons (pe_op op_add pe_int (pe_c c_L_take hr (by omega) (by rfl) (pa_cons (pv 0) (pa_cons pe_int pa_nil)))) (pa_cons (pv 5) (pa_cons (pv 6) pa_nil)))))))) pss_nil) (pss_one (ps_ret (pe_tup (pa_cons (pv 3) (pa_cons (pv 5) (pa_cons (pv 6) pa_nil))))))))))))), ?_⟩
    have two_le : 2 ≤ sizeLine := by decide
    have three_le : 3 ≤ sizeLine := by decide
    refine ⟨.int (s : Int), rfl, rfl, _, rfl, iteD (fun c1 => ?_) (fun c1 => ?_)⟩
    · have es : s = 1 := by have := V.int.inj c1; omega
      refine ⟨.ref a, rfl, .int (many : Int), rfl, a, many, n, rfl, hm1, by omega, hh, by omega, fun H1 v e b1 hh1 he oe de => ?_⟩
      obtain ⟨l1, l2⟩ := leaf_size de
      refine q _ _ e b1 (hh1.le (by omega)) he oe (by omega) ?_
      have : d ≠ 0 := fun z => by rw [z] at hsd; exact absurd hsd (by show ¬ (s ≤ 0); omega)
      omega
    have ns1 : s ≠ 1 := fun z => c1 (by rw [z]; rfl)
    refine ⟨.int (s : Int), rfl, rfl, _, rfl, iteD (fun c2 => ?_) (fun c2 => ?_)⟩
    · have es : s = 2 := by have := V.int.inj c2; omega
      have hd2 : 2 ≤ d := by
        match d, hsd with
        | 0, h => exact absurd h (by show ¬ (s ≤ 0); omega)
        | 1, h => exact absurd h (by show ¬ (s ≤ 1); omega)
        | d + 2, _ => omega
      refine ⟨.ref a, rfl, two_le, fun p1 n1 => ?_⟩
      refine ⟨a, p1, _, n, rfl, (hh.ne n1).symm, upd_same, (by show 0 < 2; decide), (by show 2 ≤ 1000; decide), hh.new n1, by omega, fun H2 v b2 hh2 hv => ?_⟩
      refine ⟨_, rfl, .ref a, rfl, a, 4, _, rfl, by decide, by decide, hh2, by omega, fun H3 r b3 hh3 r0 r1 => ?_⟩
      refine ⟨.ref a, rfl, .int (many : Int), rfl, a, many, _, rfl, hm1, by omega, hh3, by omega, fun H4 lv l b4 hh4 hl ol dl => ⟨three_le, fun t nt => ?_⟩⟩
      obtain ⟨l1, l2⟩ := leaf_size dl
      have bb := ((((But.new n1).trans b2).trans b3).trans b4).trans (But.new (o := .tup [v, .int r, lv]) nt)
      have hv : v ∈ ([.str "times", .str "by"] : List V) := hv
      simp only [List.mem_cons, List.not_mem_nil, or_false] at hv
      rcases hv with rfl | rfl
      · exact q _ _ (.times r l) bb ((hh4.new nt).le (by omega)) ⟨t, lv, rfl, SqT.of upd_same, hl.new nt⟩ ⟨⟨by omega, by omega⟩, ol⟩ (by show 1 + l.size = s; omega) (by show l.dep + 1 ≤ d; omega)
      · refine q _ _ (.by r.toNat l) bb ((hh4.new nt).le (by omega)) ⟨t, lv, rfl, ?_, hl.new nt⟩ ⟨by omega, ol⟩ (by show 1 + l.size = s; omega) (by show l.dep + 1 ≤ d; omega)
        rw [Int.toNat_of_nonneg r0]
        exact SqT.of upd_same
    have ns2 : s ≠ 2 := fun z => c2 (by rw [z]; rfl)
    refine ⟨.int (s : Int), rfl, _, _, rfl, rfl, _, _, rfl, rfl, (by exact ⟨by decide, by omega⟩), .int (s : Int), rfl, _, _, rfl, rfl, .inr ⟨_, rfl, .ref a, rfl, a, 2, n, rfl, by decide, by decide, hh, by omega, fun H1 r b1 hh1 r0 r1 => ⟨_, _, rfl, rfl, .inr ⟨by omega, by omega⟩, _, _, rfl, rfl, ?_⟩⟩⟩
    obtain ⟨f0, hf0⟩ : ∃ f0 : Nat, f0 = (s - 1) / 2 - (if 5 < s then 1 else 0) * r.toNat := ⟨_, rfl⟩
    obtain ⟨g1, g2, g3, g4, g5, g6⟩ := szB_split (r := r.toNat) hsd (by omega) (by omega) hf0
    have hfe : ((s : Int) - 1) / 2 - (if decide ((5 : Int) < (s : Int)) = true then 1 else 0) * r = (f0 : Int) := by
      by_cases c : 5 < s
      · rw [if_pos (decide_eq_true (by omega))]
        rw [if_pos c] at hf0
        omega
      · rw [if_neg (by rw [decide_eq_true_eq]; omega)]
        rw [if_neg c] at hf0
        omega
    show gName 4 (V.int (((s : Int) - 1) / 2 - (if decide ((5 : Int) < (s : Int)) = true then 1 else 0) * r)) _ _ _
    rw [hfe]
    refine ⟨.ref a, rfl, .int (many : Int), rfl, .int (f0 : Int), rfl, a, many, f0, _, d - 1, rfl, by omega, g2, g5, by omega, hm1, hm2, hh1, by omega, fun H2 v1 e1 b2 hh2 he1 oe1 se1 de1 => ?_⟩
    refine ⟨.ref a, rfl, .int (many : Int), rfl, .int (s : Int), rfl, _, _, rfl, rfl, .int (f0 : Int), rfl, _, _, rfl, rfl, a, many, s - 1 - f0, _, d - 1, ?_, by omega, g3, g6, by omega, hm1, hm2, hh2, by omega, fun H3 v2 e2 b3 hh3 he2 oe2 se2 de2 => ⟨_, _, rfl, ?_⟩⟩
    · show [V.ref a, V.int (many : Int), V.int ((s : Int) - 1 - (f0 : Int))] ++ [] = _
      rw [show (s : Int) - 1 - (f0 : Int) = ((s - 1 - f0 : Nat) : Int) by omega]
      rfl
    refine ⟨.ref a, rfl, (by show 6 ≤ sizeLine; decide), fun p4 n4 => ?_⟩
    refine ⟨a, p4, _, _, rfl, (hh3.ne n4).symm, upd_same, (by show 0 < 6; decide), (by show 6 ≤ 1000; decide), hh3.new n4, by omega, fun H5 v b5 hh5 hv => ?_⟩
    have he1' : ∀ {Hx : Hp}, But a H3 Hx → ExAt K Hx e1 v1 := fun bb => (he1.imp fun _ _ q => b3.sq hh2 q).imp fun _ _ q => bb.sq hh3 q
    have he2' : ∀ {Hx : Hp}, But a H3 Hx → ExAt K Hx e2 v2 := fun bb => he2.imp fun _ _ q => bb.sq hh3 q
    have b35 : But a H3 H5 := (But.new n4).trans b5
    have b03 := (b1.trans b2).trans b3
    have hv : v ∈ ([.str "sum", .str "less", .str "least", .str "most", .str "when", .str "where"] : List V) := hv
    simp only [List.mem_cons, List.not_mem_nil, or_false] at hv
    have key : (∃ w : W4, v = .str (wn w)) ∨ v = .str "when" ∨ v = .str "where" := by
      rcases hv with rfl | rfl | rfl | rfl | rfl | rfl
      · exact .inl ⟨.sum, rfl⟩
      · exact .inl ⟨.less, rfl⟩
      · exact .inl ⟨.least, rfl⟩
      · exact .inl ⟨.most, rfl⟩
      · exact .inr (.inl rfl)
      · exact .inr (.inr rfl)
    rcases key with ⟨w4, rfl⟩ | rfl | rfl
    · refine ⟨_, rfl, rfl, _, rfl, iteFF (wn_ne (by simp)) ⟨_, rfl, rfl, _, rfl, iteFF (wn_ne (by simp)) ?_⟩⟩
      refine ⟨_, rfl, _, rfl, _, rfl, three_le, fun t nt => ?_⟩
      have bt := b35.trans (But.new (o := .tup [.str (wn w4), v1, v2]) nt)
      exact q _ _ (.two w4 e1 e2) (b03.trans bt) ((hh5.new nt).le (by omega)) ⟨t, v1, v2, rfl, SqT.of upd_same, he1' bt, he2' bt⟩ ⟨oe1, oe2⟩ (by show 1 + e1.size + e2.size = s; omega) (by show max e1.dep e2.dep + 1 ≤ d; omega)
    · refine ⟨_, rfl, rfl, _, rfl, iteTT rfl ?_⟩
      refine ⟨_, rfl, .ref a, rfl, a, 4, _, rfl, by decide, by decide, hh5, by omega, fun H6 i b6 hh6 i0 i1 => ?_⟩
      refine ⟨.ref a, rfl, a, _, rfl, hh6, by omega, fun H7 c b7 hh7 c0 c1 => ⟨_, rfl, _, rfl, (by show 5 ≤ sizeLine; decide), fun t nt => ?_⟩⟩
      have bt := ((b35.trans b6).trans b7).trans (But.new (o := .tup [.str "when", .int i, .int c, v1, v2]) nt)
      refine q _ _ (.when i.toNat c e1 e2) (b03.trans bt) ((hh7.new nt).le (by omega)) ⟨t, v1, v2, rfl, ?_, he1' bt, he2' bt⟩ ⟨by omega, ⟨c0, c1⟩, oe1, oe2⟩ (by show 1 + e1.size + e2.size = s; omega) (by show max e1.dep e2.dep + 1 ≤ d; omega)
      rw [Int.toNat_of_nonneg i0]
      exact SqT.of upd_same
    · refine ⟨_, rfl, rfl, _, rfl, iteFF rfl ⟨_, rfl, rfl, _, rfl, iteTT rfl ?_⟩⟩
      refine ⟨_, rfl, .ref a, rfl, .int (many : Int), rfl, a, many, _, rfl, by omega, by omega, hh5, by omega, fun H6 i b6 hh6 i0 i1 => ?_⟩
      refine ⟨.ref a, rfl, a, 1000, _, rfl, by decide, by decide, hh6, by omega, fun H7 c b7 hh7 c0 c1 => ⟨_, _, rfl, rfl, _, rfl, _, rfl, (by show 5 ≤ sizeLine; decide), fun t nt => ?_⟩⟩
      have bt := ((b35.trans b6).trans b7).trans (But.new (o := .tup [.str "where", .int i, .int (1 + c), v1, v2]) nt)
      refine q _ _ (.whr i.toNat (1 + c) e1 e2) (b03.trans bt) ((hh7.new nt).le (by omega)) ⟨t, v1, v2, rfl, ?_, he1' bt, he2' bt⟩ ⟨by omega, ⟨by omega, by omega⟩, oe1, oe2⟩ (by show 1 + e1.size + e2.size = s; omega) (by show max e1.dep e2.dep + 1 ≤ d; omega)
      rw [Int.toNat_of_nonneg i0]
      exact SqT.of upd_same
end
end NG

namespace NG
open PySem PySem.Spec PyProof.Rows L2
def spSunk (K : PySem.W.Frag) : Sp := fun vs H Q _ => ∃ (a : Addr) (many t n : Nat) (v : V) (d : PyData), vs = [.ref a, .int (many : Int), v, .int (t : Int)] ∧ t ≤ 8 ∧ 1 ≤ many ∧ many ≤ 3 ∧ Dp K H v d ∧ tpo d = true ∧ HandAt H a n ∧ n + 20 * t ≤ 999990000 ∧
  ∀ H' v' d', But a H H' → HandAt H' a (n + 20 * t) → Dp K H' v' d' → Snks many d t d' → Q v' H'
theorem exat_dp {K : PySem.W.Frag} {H : Hp} {e : Ex} {v : V} (h : ExAt K H e v) : Dp K H v (toD e) := h.dp
section
variable {P : Program} {w : World} {K : PySem.W.Frag} {mg : Str → Option Value} {base : Heap}
theorem ok_sunk {f : Addr} {fd : FuncData} (F : Fun K "_law_sunk" "_law_sunk" s_L_sunk f fd) (gF : mg "_law_sunk" = some (.ref f)) (b : Binds K fd ["_law_hand_here", "_law_signs", "_law_inner", "_law_times"] []) (B : Bl mg) (c_L_take : Cal P w K mg base 1 "_law_take" spTake) (c_L_of : Cal P w K mg base 2 "_law_of" (spOf K)) (c_L_figure : Cal P w K mg base 3 "_law_figure" spFigure) (c_L_leaf : Cal P w K mg base 4 "_law_leaf" (spLeaf K)) : Cal P w K mg base 5 "_law_sunk" (spSunk K) := by
  refine ⟨f, fd, _, F.ok sc_L_sunk (fun vs H Q E h => ?_) (fun cdv A outer s H vs Q E hr h => ?_), gF, F.kp, b⟩
  · obtain ⟨_, _, _, _, _, _, rfl, _⟩ := h
    rfl
  · obtain ⟨a, many, t, n, v0, d0, rfl, ht, hm1, hm2, hd0, htp, hh0, hn, q⟩ := h
    refine ⟨_, (pss_cons (ps_for PassesOwn.never rfl (pi_range1 rfl B.range (pa_cons (pv 3) pa_nil)) (pg_name (i := 4) sc_L_sunk.nd rfl (.inl rfl)) (pss_cons (ps_par (i := 5) (j := 6) rfl sc_L_sunk.nd rfl rfl (by decide) rfl rfl (pa_cons (pe_c c_L_leaf hr (by omega) (by rfl) (pa_cons (pv 0) (pa_cons (pv 1) pa_nil))) (pa_cons (pe_c c_L_take hr (by omega) (by rfl) (pa_cons (pv 0) (pa_cons (pv 1) pa_nil))) pa_nil)) (by rfl)) (pss_cons (ps_set (i := 7) sc_L_sunk.nd rfl (.inl rfl) (pe_lst (pa_cons (pe_tup (pa_cons pe_str (pa_cons (pe_op op_sub pe_int (pv 6)) (pa_cons (pv 2) pa_nil)))) (pa_cons (pe_tup (pa_cons pe_str (pa_cons (pv 6) (pa_cons (pv 2) pa_nil)))) (pa_cons (pe_tup (pa_cons pe_str (pa_cons (pv 5) (pa_cons (pv 2) pa_nil)))) (pa_cons (pe_tup (pa_cons pe_str (pa_cons (pv 2) (pa_cons (pv 5) pa_nil)))) pa_nil)))))) (pss_cons (ps_set (i := 7) sc_L_sunk.nd rfl (.inl rfl) (pe_op op_cat (pv 7) (pe_lst (pa_cons (pe_tup (pa_cons pe_str (pa_cons (pv 5) (pa_cons (pv 2) pa_nil)))) (pa_cons (pe_tup (pa_cons pe_str (pa_cons (pv 2) (pa_cons (pv 5) pa_nil)))) (pa_cons (pe_tup (pa_cons pe_str (pa_cons (pv 6) (pa_cons (pe_c c_L_figure hr (by omega) (by rfl) (pa_cons (pv 0) pa_nil)) (pa_cons (pv 5) (pa_cons (pv 2) pa_nil)))))) pa_nil)))))) (pss_one (ps_set (i := 2) sc_L_sunk.nd rfl (.inl rfl) (pe_c c_L_of hr (by omega) (by rfl) (pa_cons (pv 0) (pa_cons (pe_op op_cat (pv 7) (pe_lst (pa_cons (pe_tup (pa_cons pe_str (pa_cons (pv 6) (pa_cons (pe_op op_add pe_int (pe_c c_L_take hr (by omega) (by rfl) (pa_cons (pv 0) (pa_cons pe_int pa_nil)))) (pa_cons (pv 2) (pa_cons (pv 5) pa_nil)))))) pa_nil))) pa_nil))))))))) (pss_one (ps_ret (pv 2)))), ?_⟩
    have one_le : 1 ≤ sizeLine := by decide
    have three_le : 3 ≤ sizeLine := by decide
    have four_le : 4 ≤ sizeLine := by decide
    have five_le : 5 ≤ sizeLine := by decide
    refine ⟨.int (t : Int), rfl, _, rfl, by omega, by omega, ?_⟩
    refine for_range (n := ((t : Int)).toNat) (fun j σ H' => ∃ v d y4 y5 y6 y7, σ = [some (.ref a), some (.int (many : Int)), some v, some (.int (t : Int)), y4, y5, y6, y7] ∧ But a H H' ∧ HandAt H' a (n + 20 * j) ∧ Dp K H' v d ∧ Snks many d0 j d) ⟨v0, d0, none, none, none, none, rfl, But.of (Same.refl _), hh0, hd0, .nil⟩ ?_ ?_
    · rintro j σ H1 hj ⟨v, d, y4, y5, y6, y7, rfl, b1, hh1, hd1, hs1⟩
      have hj8 : j < t := by omega
      have htd : tpo d = true := snks_tpo hs1 htp
      refine ⟨.ref a, rfl, .int (many : Int), rfl, a, many, _, rfl, hm1, by omega, hh1, by omega, fun H2 lv l b2 hh2 hl ol dl => ?_⟩
      refine ⟨.ref a, rfl, .int (many : Int), rfl, a, many, _, rfl, by omega, by omega, hh2, by omega, fun H3 i b3 hh3 i0 i1 => ⟨_, _, rfl, ?_⟩⟩
      obtain ⟨i, rfl⟩ : ∃ i' : Nat, i = (i' : Int) := ⟨i.toNat, by omega⟩
      have b13 := b2.trans b3
      have hl3 := hl.imp fun _ _ q => b3.sq hh2 q
      have bc3 : But a H3 H3 := But.of (Same.refl _)
      have hb3 := hh3
      refine ⟨_, rfl, _, _, rfl, rfl, _, rfl, three_le, fun t1 nt1 => ?_⟩
      have S4 := same_new (o := (.tup [.str "times", .int (0 - (i : Int)), v])) nt1
      have bc4 := bc3.trans (But.of S4)
      have hb4 := hb3.same S4
      have xt1_4 : SqT K (upd H3 t1 (.tup [.str "times", .int (0 - (i : Int)), v])) t1 [.str "times", .int (0 - (i : Int)), v] := SqT.of upd_same
      clear S4
      generalize upd H3 t1 (.tup [.str "times", .int (0 - (i : Int)), v]) = G4 at bc4 hb4 xt1_4 ⊢
      refine ⟨_, rfl, _, rfl, three_le, fun t2 nt2 => ?_⟩
      have S5 := same_new (o := (.tup [.str "by", .int (i : Int), v])) nt2
      have xt1_5 := same_sqt S5 xt1_4
      have bc5 := bc4.trans (But.of S5)
      have hb5 := hb4.same S5
      have xt2_5 : SqT K (upd G4 t2 (.tup [.str "by", .int (i : Int), v])) t2 [.str "by", .int (i : Int), v] := SqT.of upd_same
      clear S5
      generalize upd G4 t2 (.tup [.str "by", .int (i : Int), v]) = G5 at bc5 hb5 xt1_5 xt2_5 ⊢
      refine ⟨_, rfl, _, rfl, three_le, fun t3 nt3 => ?_⟩
      have S6 := same_new (o := (.tup [.str "sum", lv, v])) nt3
      have xt1_6 := same_sqt S6 xt1_5
      have xt2_6 := same_sqt S6 xt2_5
      have bc6 := bc5.trans (But.of S6)
      have hb6 := hb5.same S6
      have xt3_6 : SqT K (upd G5 t3 (.tup [.str "sum", lv, v])) t3 [.str "sum", lv, v] := SqT.of upd_same
      clear S6
      generalize upd G5 t3 (.tup [.str "sum", lv, v]) = G6 at bc6 hb6 xt1_6 xt2_6 xt3_6 ⊢
      refine ⟨_, rfl, _, rfl, three_le, fun t4 nt4 => ?_⟩
      have S7 := same_new (o := (.tup [.str "less", v, lv])) nt4
      have xt1_7 := same_sqt S7 xt1_6
      have xt2_7 := same_sqt S7 xt2_6
      have xt3_7 := same_sqt S7 xt3_6
      have bc7 := bc6.trans (But.of S7)
      have hb7 := hb6.same S7
      have xt4_7 : SqT K (upd G6 t4 (.tup [.str "less", v, lv])) t4 [.str "less", v, lv] := SqT.of upd_same
      clear S7
      generalize upd G6 t4 (.tup [.str "less", v, lv]) = G7 at bc7 hb7 xt1_7 xt2_7 xt3_7 xt4_7 ⊢
      refine ⟨four_le, fun L1 nL1 => ?_⟩
      have S8 := same_new (o := (.lst [.ref t1, .ref t2, .ref t3, .ref t4])) nL1
      have xt1_8 := same_sqt S8 xt1_7
      have xt2_8 := same_sqt S8 xt2_7
      have xt3_8 := same_sqt S8 xt3_7
      have xt4_8 := same_sqt S8 xt4_7
      have bc8 := bc7.trans (But.of S8)
      have hb8 := hb7.same S8
      have xL1_8 : (upd G7 L1 (.lst [.ref t1, .ref t2, .ref t3, .ref t4])) L1 = some (.lst [.ref t1, .ref t2, .ref t3, .ref t4]) := upd_same
      have neL1 : L1 ≠ a := hb7.ne nL1
      clear S8
      generalize upd G7 L1 (.lst [.ref t1, .ref t2, .ref t3, .ref t4]) = G8 at bc8 hb8 xt1_8 xt2_8 xt3_8 xt4_8 xL1_8 ⊢
      refine ⟨_, rfl, _, rfl, _, rfl, three_le, fun t5 nt5 => ?_⟩
      have S9 := same_new (o := (.tup [.str "least", lv, v])) nt5
      have xt1_9 := same_sqt S9 xt1_8
      have xt2_9 := same_sqt S9 xt2_8
      have xt3_9 := same_sqt S9 xt3_8
      have xt4_9 := same_sqt S9 xt4_8
      have xL1_9 := S9 _ _ xL1_8
      have bc9 := bc8.trans (But.of S9)
      have hb9 := hb8.same S9
      have xt5_9 : SqT K (upd G8 t5 (.tup [.str "least", lv, v])) t5 [.str "least", lv, v] := SqT.of upd_same
      clear S9
      generalize upd G8 t5 (.tup [.str "least", lv, v]) = G9 at bc9 hb9 xt1_9 xt2_9 xt3_9 xt4_9 xt5_9 xL1_9 ⊢
      refine ⟨_, rfl, _, rfl, three_le, fun t6 nt6 => ?_⟩
      have S10 := same_new (o := (.tup [.str "most", v, lv])) nt6
      have xt1_10 := same_sqt S10 xt1_9
      have xt2_10 := same_sqt S10 xt2_9
      have xt3_10 := same_sqt S10 xt3_9
      have xt4_10 := same_sqt S10 xt4_9
      have xt5_10 := same_sqt S10 xt5_9
      have xL1_10 := S10 _ _ xL1_9
      have bc10 := bc9.trans (But.of S10)
      have hb10 := hb9.same S10
      have xt6_10 : SqT K (upd G9 t6 (.tup [.str "most", v, lv])) t6 [.str "most", v, lv] := SqT.of upd_same
      clear S10
      generalize upd G9 t6 (.tup [.str "most", v, lv]) = G10 at bc10 hb10 xt1_10 xt2_10 xt3_10 xt4_10 xt5_10 xt6_10 xL1_10 ⊢
      refine ⟨_, rfl, .ref a, rfl, a, _, rfl, hb10, by omega, fun G11 c bb11 hb11 c0 c1 => ?_⟩
      have xt1_11 := bb11.sq hb10 xt1_10
      have xt2_11 := bb11.sq hb10 xt2_10
      have xt3_11 := bb11.sq hb10 xt3_10
      have xt4_11 := bb11.sq hb10 xt4_10
      have xt5_11 := bb11.sq hb10 xt5_10
      have xt6_11 := bb11.sq hb10 xt6_10
      have xL1_11 := bb11 _ _ neL1 xL1_10
      have bc11 := bc10.trans bb11
      refine ⟨_, rfl, _, rfl, five_le, fun t7 nt7 => ?_⟩
      have S12 := same_new (o := (.tup [.str "when", .int (i : Int), .int c, lv, v])) nt7
      have xt1_12 := same_sqt S12 xt1_11
      have xt2_12 := same_sqt S12 xt2_11
      have xt3_12 := same_sqt S12 xt3_11
      have xt4_12 := same_sqt S12 xt4_11
      have xt5_12 := same_sqt S12 xt5_11
      have xt6_12 := same_sqt S12 xt6_11
      have xL1_12 := S12 _ _ xL1_11
      have bc12 := bc11.trans (But.of S12)
      have hb12 := hb11.same S12
      have xt7_12 : SqT K (upd G11 t7 (.tup [.str "when", .int (i : Int), .int c, lv, v])) t7 [.str "when", .int (i : Int), .int c, lv, v] := SqT.of upd_same
      clear S12
      generalize upd G11 t7 (.tup [.str "when", .int (i : Int), .int c, lv, v]) = G12 at bc12 hb12 xt1_12 xt2_12 xt3_12 xt4_12 xt5_12 xt6_12 xt7_12 xL1_12 ⊢
      refine ⟨three_le, fun L2 nL2 => ?_⟩
      have S13 := same_new (o := (.lst [.ref t5, .ref t6, .ref t7])) nL2
      have xt1_13 := same_sqt S13 xt1_12
      have xt2_13 := same_sqt S13 xt2_12
      have xt3_13 := same_sqt S13 xt3_12
      have xt4_13 := same_sqt S13 xt4_12
      have xt5_13 := same_sqt S13 xt5_12
      have xt6_13 := same_sqt S13 xt6_12
      have xt7_13 := same_sqt S13 xt7_12
      have xL1_13 := S13 _ _ xL1_12
      have bc13 := bc12.trans (But.of S13)
      have hb13 := hb12.same S13
      have xL2_13 : (upd G12 L2 (.lst [.ref t5, .ref t6, .ref t7])) L2 = some (.lst [.ref t5, .ref t6, .ref t7]) := upd_same
      have neL2 : L2 ≠ a := hb12.ne nL2
      clear S13
      generalize upd G12 L2 (.lst [.ref t5, .ref t6, .ref t7]) = G13 at bc13 hb13 xt1_13 xt2_13 xt3_13 xt4_13 xt5_13 xt6_13 xt7_13 xL1_13 xL2_13 ⊢
      refine ⟨L1, L2, _, _, rfl, rfl, xL1_13, xL2_13, (by show 7 ≤ sizeLine; decide), fun L3 nL3 => ?_⟩
      dsimp only [List.cons_append, List.nil_append]
      have S14 := same_new (o := (.lst [.ref t1, .ref t2, .ref t3, .ref t4, .ref t5, .ref t6, .ref t7])) nL3
      have xt1_14 := same_sqt S14 xt1_13
      have xt2_14 := same_sqt S14 xt2_13
      have xt3_14 := same_sqt S14 xt3_13
      have xt4_14 := same_sqt S14 xt4_13
      have xt5_14 := same_sqt S14 xt5_13
      have xt6_14 := same_sqt S14 xt6_13
      have xt7_14 := same_sqt S14 xt7_13
      have xL1_14 := S14 _ _ xL1_13
      have xL2_14 := S14 _ _ xL2_13
      have bc14 := bc13.trans (But.of S14)
      have hb14 := hb13.same S14
      have xL3_14 : (upd G13 L3 (.lst [.ref t1, .ref t2, .ref t3, .ref t4, .ref t5, .ref t6, .ref t7])) L3 = some (.lst [.ref t1, .ref t2, .ref t3, .ref t4, .ref t5, .ref t6, .ref t7]) := upd_same
      have neL3 : L3 ≠ a := hb13.ne nL3
      clear S14
      generalize upd G13 L3 (.lst [.ref t1, .ref t2, .ref t3, .ref t4, .ref t5, .ref t6, .ref t7]) = G14 at bc14 hb14 xt1_14 xt2_14 xt3_14 xt4_14 xt5_14 xt6_14 xt7_14 xL1_14 xL2_14 xL3_14 ⊢
      refine ⟨.ref a, rfl, _, rfl, _, rfl, .ref a, rfl, a, 1000, _, rfl, by decide, by decide, hb14, by omega, fun G15 g bb15 hb15 g0 g1 => ?_⟩
      have xt1_15 := bb15.sq hb14 xt1_14
      have xt2_15 := bb15.sq hb14 xt2_14
      have xt3_15 := bb15.sq hb14 xt3_14
      have xt4_15 := bb15.sq hb14 xt4_14
      have xt5_15 := bb15.sq hb14 xt5_14
      have xt6_15 := bb15.sq hb14 xt6_14
      have xt7_15 := bb15.sq hb14 xt7_14
      have xL1_15 := bb15 _ _ neL1 xL1_14
      have xL2_15 := bb15 _ _ neL2 xL2_14
      have xL3_15 := bb15 _ _ neL3 xL3_14
      have bc15 := bc14.trans bb15
      refine ⟨_, _, rfl, rfl, _, rfl, _, rfl, five_le, fun t8 nt8 => ?_⟩
      have S16 := same_new (o := (.tup [.str "where", .int (i : Int), .int (1 + g), v, lv])) nt8
      have xt1_16 := same_sqt S16 xt1_15
      have xt2_16 := same_sqt S16 xt2_15
      have xt3_16 := same_sqt S16 xt3_15
      have xt4_16 := same_sqt S16 xt4_15
      have xt5_16 := same_sqt S16 xt5_15
      have xt6_16 := same_sqt S16 xt6_15
      have xt7_16 := same_sqt S16 xt7_15
      have xL1_16 := S16 _ _ xL1_15
      have xL2_16 := S16 _ _ xL2_15
      have xL3_16 := S16 _ _ xL3_15
      have bc16 := bc15.trans (But.of S16)
      have hb16 := hb15.same S16
      have xt8_16 : SqT K (upd G15 t8 (.tup [.str "where", .int (i : Int), .int (1 + g), v, lv])) t8 [.str "where", .int (i : Int), .int (1 + g), v, lv] := SqT.of upd_same
      clear S16
      generalize upd G15 t8 (.tup [.str "where", .int (i : Int), .int (1 + g), v, lv]) = G16 at bc16 hb16 xt1_16 xt2_16 xt3_16 xt4_16 xt5_16 xt6_16 xt7_16 xt8_16 xL1_16 xL2_16 xL3_16 ⊢
      refine ⟨one_le, fun L4 nL4 => ?_⟩
      have S17 := same_new (o := (.lst [.ref t8])) nL4
      have xt1_17 := same_sqt S17 xt1_16
      have xt2_17 := same_sqt S17 xt2_16
      have xt3_17 := same_sqt S17 xt3_16
      have xt4_17 := same_sqt S17 xt4_16
      have xt5_17 := same_sqt S17 xt5_16
      have xt6_17 := same_sqt S17 xt6_16
      have xt7_17 := same_sqt S17 xt7_16
      have xt8_17 := same_sqt S17 xt8_16
      have xL1_17 := S17 _ _ xL1_16
      have xL2_17 := S17 _ _ xL2_16
      have xL3_17 := S17 _ _ xL3_16
      have bc17 := bc16.trans (But.of S17)
      have hb17 := hb16.same S17
      have xL4_17 : (upd G16 L4 (.lst [.ref t8])) L4 = some (.lst [.ref t8]) := upd_same
      have neL4 : L4 ≠ a := hb16.ne nL4
      clear S17
      generalize upd G16 L4 (.lst [.ref t8]) = G17 at bc17 hb17 xt1_17 xt2_17 xt3_17 xt4_17 xt5_17 xt6_17 xt7_17 xt8_17 xL1_17 xL2_17 xL3_17 xL4_17 ⊢
      refine ⟨L3, L4, _, _, rfl, rfl, xL3_17, xL4_17, (by show 8 ≤ sizeLine; decide), fun L5 nL5 => ?_⟩
      dsimp only [List.cons_append, List.nil_append]
      have S18 := same_new (o := (.lst [.ref t1, .ref t2, .ref t3, .ref t4, .ref t5, .ref t6, .ref t7, .ref t8])) nL5
      have xt1_18 := same_sqt S18 xt1_17
      have xt2_18 := same_sqt S18 xt2_17
      have xt3_18 := same_sqt S18 xt3_17
      have xt4_18 := same_sqt S18 xt4_17
      have xt5_18 := same_sqt S18 xt5_17
      have xt6_18 := same_sqt S18 xt6_17
      have xt7_18 := same_sqt S18 xt7_17
      have xt8_18 := same_sqt S18 xt8_17
      have xL1_18 := S18 _ _ xL1_17
      have xL2_18 := S18 _ _ xL2_17
      have xL3_18 := S18 _ _ xL3_17
      have xL4_18 := S18 _ _ xL4_17
      have bc18 := bc17.trans (But.of S18)
      have hb18 := hb17.same S18
      have xL5_18 : (upd G17 L5 (.lst [.ref t1, .ref t2, .ref t3, .ref t4, .ref t5, .ref t6, .ref t7, .ref t8])) L5 = some (.lst [.ref t1, .ref t2, .ref t3, .ref t4, .ref t5, .ref t6, .ref t7, .ref t8]) := upd_same
      have neL5 : L5 ≠ a := hb17.ne nL5
      clear S18
      generalize upd G17 L5 (.lst [.ref t1, .ref t2, .ref t3, .ref t4, .ref t5, .ref t6, .ref t7, .ref t8]) = G18 at bc18 hb18 xt1_18 xt2_18 xt3_18 xt4_18 xt5_18 xt6_18 xt7_18 xt8_18 xL1_18 xL2_18 xL3_18 xL4_18 xL5_18 ⊢
      refine ⟨a, L5, _, _, rfl, neL5.symm, xL5_18, (by show 0 < 8; decide), (by show 8 ≤ 1000; decide), hb18, by omega, fun G19 v9 bb19 hb19 hv9 => ?_⟩
      have xt1_19 := bb19.sq hb18 xt1_18
      have xt2_19 := bb19.sq hb18 xt2_18
      have xt3_19 := bb19.sq hb18 xt3_18
      have xt4_19 := bb19.sq hb18 xt4_18
      have xt5_19 := bb19.sq hb18 xt5_18
      have xt6_19 := bb19.sq hb18 xt6_18
      have xt7_19 := bb19.sq hb18 xt7_18
      have xt8_19 := bb19.sq hb18 xt8_18
      have xL1_19 := bb19 _ _ neL1 xL1_18
      have xL2_19 := bb19 _ _ neL2 xL2_18
      have xL3_19 := bb19 _ _ neL3 xL3_18
      have xL4_19 := bb19 _ _ neL4 xL4_18
      have xL5_19 := bb19 _ _ neL5 xL5_18
      have bc19 := bc18.trans bb19
      have hd9 : Dp K G19 v d := dp_but (b13.trans bc19) hh1 htd hd1
      have hl9 : Dp K G19 lv (toD l) := (hl3.imp fun _ _ q => bc19.sq hh3 q).dp
      have key : ∃ d2, Dp K G19 v9 d2 ∧ Snk many d d2 := by
        simp only [List.mem_cons, List.not_mem_nil, or_false] at hv9
        rcases hv9 with rfl | rfl | rfl | rfl | rfl | rfl | rfl | rfl
        · refine ⟨_, .tup xt1_19 (.cons (.str _) (.cons (.int _) (.cons hd9 .nil))), ?_⟩
          rw [Int.zero_sub]
          exact .times i (by omega)
        · exact ⟨_, .tup xt2_19 (.cons (.str _) (.cons (.int _) (.cons hd9 .nil))), .by i (by omega)⟩
        · exact ⟨_, .tup xt3_19 (.cons (.str _) (.cons hl9 (.cons hd9 .nil))), .two1 .sum l ol dl⟩
        · exact ⟨_, .tup xt4_19 (.cons (.str _) (.cons hd9 (.cons hl9 .nil))), .two2 .less l ol dl⟩
        · exact ⟨_, .tup xt5_19 (.cons (.str _) (.cons hl9 (.cons hd9 .nil))), .two1 .least l ol dl⟩
        · exact ⟨_, .tup xt6_19 (.cons (.str _) (.cons hd9 (.cons hl9 .nil))), .two2 .most l ol dl⟩
        · exact ⟨_, .tup xt7_19 (.cons (.str _) (.cons (.int _) (.cons (.int _) (.cons hl9 (.cons hd9 .nil))))), .when i c l (by omega) c0 c1 ol dl⟩
        · exact ⟨_, .tup xt8_19 (.cons (.str _) (.cons (.int _) (.cons (.int _) (.cons hd9 (.cons hl9 .nil))))), .whr i (1 + g) l (by omega) (by omega) (by omega) ol dl⟩
      obtain ⟨d2, hd2, hsn⟩ := key
      exact ⟨_, d2, _, _, _, _, rfl, b1.trans (b13.trans bc19), hb19.le (by omega), hd2, .step hs1 hsn⟩
    · rintro σ H1 ⟨v, d, y4, y5, y6, y7, rfl, b1, hh1, hd1, hs1⟩
      have e : ((t : Int)).toNat = t := by omega
      rw [e] at hh1 hs1
      exact ⟨_, rfl, q _ _ d b1 hh1 hd1 hs1⟩
end
end NG

namespace NG
open PySem PySem.Spec PyProof.Rows L2
section
variable {P : Program} {w : World} {K : PySem.W.Frag} {mg : Str → Option Value} {base : Heap}
theorem ok_parts {f a_SHAPES : Addr} {fd : FuncData} (F : Fun K "parts" "parts" s_parts f fd) (gF : mg "parts" = some (.ref f)) (b : Binds K fd ["expression"] []) (B : Bl mg) (mg_SHAPES : mg "SHAPES" = some (.ref a_SHAPES)) (hSh : Shapes K w a_SHAPES) : Cal P w K mg base 1 "parts" (spParts K) := by
  refine ⟨f, fd, _, F.ok sc_parts (fun vs H Q E h => ?_) (fun cdv A outer s H vs Q E hr h => ?_), gF, F.kp, b⟩
  · obtain ⟨_, _, rfl, _⟩ := h
    rfl
  · obtain ⟨v, e, rfl, he, q⟩ := h
    obtain ⟨p, xs, rfl, hp, hl, hl4, hl0, hrow⟩ := he.lies
    obtain ⟨sq, hkd, hsq⟩ := hSh e
    refine ⟨_, (pss_cons (ps_set (i := 1) sc_parts.nd rfl (.inl rfl) (pe_ix ix_kdict (pe_glob (v := .ref a_SHAPES) (by rfl) mg_SHAPES rfl) (pe_ix ix_tup (pv 0) pe_int (fun _ _ => rfl)) (fun _ _ => rfl))) (pss_one (ps_ret (pe_lc (own := [("kind", 2), ("item", 3)]) rfl sc_parts.nd (RZ.pi_zipA (by rfl) B.zip (pa_cons (pv 1) (pa_cons (pe_slice sl_tup (pv 0) (po_some pe_int) po_none) pa_nil))) (blkOk_by (N := N_parts) (sc := defScope s_parts) (by decide +kernel)) (fun _ _ _ _ _ => pgtK (n := 2) K rfl (pgs_cons (pg_name (i := 2) sc_parts.nd rfl (.inl rfl)) (pgs_cons (pg_name (i := 3) sc_parts.nd rfl (.inl rfl)) pgs_nil))) (fun _ _ _ _ _ => pts_one (pt_cmpR op_eq (pv 2) pe_str (nomark _))) (fun _ _ _ _ _ => pv 3))))), ?_⟩
    refine ⟨.ref p, rfl, p, _, 0, _, rfl, rfl, hp, at_of (j := 0) rfl rfl, a_SHAPES, _, .ref sq, rfl, rfl, hkd, ?_⟩
    have hcut : cutV (V.str (wordOf e) :: xs) (some 1) none = xs := by
      unfold cutV
      rw [show HT.sIx (V.str (wordOf e) :: xs).length 0 (some 1) = min 1 (V.str (wordOf e) :: xs).length from HT.sIx_nat _ 0 1, HT.sIx_none, List.length_cons, show min 1 (xs.length + 1) = 1 by omega]
      show List.take (xs.length + 1 - 1) xs = xs
      rw [Nat.add_sub_cancel, List.take_length]
    refine ⟨.ref sq, rfl, .ref p, rfl, 1, rfl, p, _, rfl, hp, ?_, fun c nc => ?_⟩
    · rw [show HT.sIx (V.str (wordOf e) :: xs).length 0 (some 1) = min 1 (V.str (wordOf e) :: xs).length from HT.sIx_nat _ 0 1, List.length_cons]
      omega
    rw [hcut]
    have smc : Same H (upd H c (.tup xs)) := same_new nc
    have hc : (upd H c (.tup xs)) c = some (.tup xs) := upd_same
    have hlk : ((shapeOf e).map V.str).length = xs.length := by rw [List.length_map]; exact hl.symm
    refine ⟨sq, c, (shapeOf e).map V.str, xs, rfl, .inr ⟨hsq _, SqT.of hc, fun D nD => lc_it (walk_zipT hlk rfl) (fun i H' => Same (upd H c (.tup xs)) H' ∧ H' D = some (.lst (pk ((shapeOf e).take i) (xs.take i)))) ⟨same_new nD, upd_same⟩ (fun i H' _ h => ⟨hsq _, SqT.of (h.1 _ _ hc)⟩) ?_ ?_⟩⟩
    · rintro i x H1 H2 hi ⟨sm, hD⟩ ⟨T, k, it, rfl, nT, rfl, e1, e2⟩
      have e1 : ((shapeOf e).map V.str)[i]? = some k := e1
      have e2 : xs[i]? = some it := e2
      rw [List.getElem?_map] at e1
      cases hk : (shapeOf e)[i]? with
      | none => rw [hk] at e1; cases e1
      | some ks =>
        rw [hk] at e1
        have ek : V.str ks = k := Option.some.inj e1
        subst ek
        have sm2 := sm.trans (same_new (o := .tup [V.str ks, it]) nT)
        have hD2 := same_new (o := .tup [V.str ks, it]) nT _ _ hD
        refine ⟨T, _, rfl, SqT.of upd_same, rfl, _, _, rfl, _, _, rfl, rfl, rfl, .str ks, rfl, rfl, _, rfl, iteD (fun cq => ?_) (fun cq => ?_)⟩
        · refine ⟨it, rfl, _, hD2, ?_, fun b' o eb => ?_, ?_⟩
          · refine small1000 (Nat.le_trans (pk_len _ _) ?_)
            rw [List.length_take]
            omega
          · rw [upd_ne (ne_of_none eb nD)]
            exact sm2 _ _ eb
          · rw [upd_same, pk_snoc hk e2, if_pos cq]
        · refine ⟨sm2, ?_⟩
          rw [hD2, pk_snoc hk e2, if_neg cq, List.append_nil]
    · rintro H1 ⟨sm, hD⟩
      rw [List.take_of_length_le (by rw [hl]; exact Nat.le_refl _), List.take_length] at hD
      have smt := smc.trans sm
      exact q _ D _ smt (smc.free nD) hD (hrow.same smt)
end
end NG

namespace NG
open PySem PySem.Spec PyProof.Rows L2
/-! ### promises of the looks at things -/
def spIsNum (K : PySem.W.Frag) : Sp := fun vs H Q _ => ∃ (v : V) (d : PyData), vs = [v] ∧ Dp K H v d ∧ Q (.bl (isInt d)) H
def spInB (K : PySem.W.Frag) : Sp := fun vs H Q _ => ∃ (v : V) (lo hi : Int) (d : PyData), vs = [v, .int lo, .int hi] ∧ Dp K H v d ∧ Q (.bl (inD lo hi d)) H
def spFits (K : PySem.W.Frag) : Sp := fun vs H Q _ => ∃ (k : Kd) (v : V) (many : Int) (d : PyData), vs = [.str (kdn k), v, .int many] ∧ Dp K H v d ∧ ∀ H', Same H H' → Q (.bl (fitD many k d)) H'
def spFirst (K : PySem.W.Frag) : Sp := fun vs H Q _ => ∃ (p : Addr) (x : Str) (xs : List V), vs = [.ref p] ∧ SqT K H p (.str x :: xs) ∧ Q (.str x) H
def spFitsSh (K : PySem.W.Frag) : Sp := fun vs H Q _ => ∃ (p q : Addr) (many : Int) (x : Str) (xs : List V) (ds : List PyData) (ks : List Kd), vs = [.ref p, .ref q, .int many] ∧ SqT K H p (.str x :: xs) ∧ DpAll K H xs ds ∧ (∀ H', SqT K H' q (ks.map fun k => V.str (kdn k))) ∧ ks.length ≤ 4 ∧ ∀ H', Same H H' → Q (.bl (fitsD many ks ds)) H'
def spHasSh (K : PySem.W.Frag) : Sp := fun vs H Q _ => ∃ (p : Addr) (many : Int) (w : We) (xs : List V) (ds : List PyData), vs = [.ref p, .int many] ∧ SqT K H p (.str (wen w) :: xs) ∧ DpAll K H xs ds ∧ ∀ H', Same H H' → Q (.bl (fitsD many (wsh w) ds)) H'
def spPartsD (K : PySem.W.Frag) : Sp := fun vs H Q _ => ∃ (p : Addr) (w : We) (xs : List V) (ds : List PyData), vs = [.ref p] ∧ SqT K H p (.str (wen w) :: xs) ∧ DpAll K H xs ds ∧ ds.length = (wsh w).length ∧ ∀ H' l us, Same H H' → H l = none → H' l = some (.lst us) → DpAll K H' us (partsD (wsh w) ds) → Q (.ref l) H'
def spCntE (K : PySem.W.Frag) (n : Nat) : Sp := fun vs H Q _ => ∃ (v : V) (many : Int) (k : Nat) (d : PyData), vs = [v, .int many, .int (k : Int)] ∧ k < n ∧ Dp K H v d ∧ wdE many k d ∧ ∀ H', Same H H' → Q (.int (cntE many k d : Nat)) H'
def spIsEx (K : PySem.W.Frag) : Sp := fun vs H Q _ => ∃ (v : V) (many : Int) (d : PyData), vs = [v, .int many] ∧ Dp K H v d ∧ wdE many 8 d ∧ ∀ H', Same H H' → Q (.bl (isEx many d)) H'
def spIsRegs (K : PySem.W.Frag) : Sp := fun vs H Q _ => ∃ (p : Addr) (xs : List V) (ds : List PyData), vs = [.ref p] ∧ SqT K H p xs ∧ DpAll K H xs ds ∧ ∀ H', Same H H' → Q (.bl (regsD ds)) H'
section
variable {P : Program} {w : World} {K : PySem.W.Frag} {mg : Str → Option Value} {base : Heap}
theorem ok_isnum {f : Addr} {fd : FuncData} (F : Fun K "is_number" "is_number" s_is_number f fd) (gF : mg "is_number" = some (.ref f)) (b : Binds K fd ["thing"] []) (B : Bl mg) (n_bool : mg "bool" = none) : Cal P w K mg base 1 "is_number" (spIsNum K) := by
  refine ⟨f, fd, _, F.ok sc_is_number (fun vs H Q E h => ?_) (fun cdv A outer s H vs Q E hr h => ?_), gF, F.kp, b⟩
  · obtain ⟨_, _, rfl, _⟩ := h
    rfl
  · obtain ⟨v, d, rfl, hd, q⟩ := h
    refine ⟨_, (pss_one (ps_ret (pe_and (pe_callB call_isi (by rfl) B.isinstance (by decide +kernel) (pa_cons (pv 0) (pa_cons (pe_bltn (v := .ty "int") (by rfl) B.int (by decide +kernel) rfl) pa_nil))) (pe_one (pe_not (pe_callB call_isi (by rfl) B.isinstance (by decide +kernel) (pa_cons (pv 0) (pa_cons (pe_bltn (v := .ty "bool") (by rfl) n_bool (by decide +kernel) rfl) pa_nil)))))))), ?_⟩
    refine ⟨v, rfl, v, .ty "int", _, _, _, rfl, .ty _, Dp.tyx hd, kit_ty (kit_int d), _, rfl, ?_⟩
    rw [← isInt_eq d] at q
    cases hk : kI d with
    | false =>
      rw [hk] at q
      exact iteFF rfl q
    | true =>
      rw [hk] at q
      exact iteTT rfl ⟨v, rfl, v, .ty "bool", _, _, _, rfl, .ty _, Dp.tyx hd, kit_ty (kit_bool d), _, rfl, q⟩
theorem ok_iswithin {f : Addr} {fd : FuncData} (F : Fun K "is_within" "is_within" s_is_within f fd) (gF : mg "is_within" = some (.ref f)) (b : Binds K fd ["thing", "low", "high"] []) (c_is_number : Cal P w K mg base 1 "is_number" (spIsNum K)) : Cal P w K mg base 2 "is_within" (spInB K) := by
  refine ⟨f, fd, _, F.ok sc_is_within (fun vs H Q E h => ?_) (fun cdv A outer s H vs Q E hr h => ?_), gF, F.kp, b⟩
  · obtain ⟨_, _, _, _, rfl, _⟩ := h
    rfl
  · obtain ⟨v, lo, hi, d, rfl, hd, q⟩ := h
    refine ⟨_, (pss_one (ps_ret (pe_and (pe_c c_is_number hr (by omega) (by rfl) (pa_cons (pv 0) pa_nil)) (pe_one (pe_chain op_le op_le (pv 1) (pv 0) (pv 2)))))), ?_⟩
    refine ⟨v, rfl, v, d, rfl, hd, _, rfl, ?_⟩
    cases hd with
    | int i =>
      refine iteTT rfl ⟨.int lo, rfl, .int i, rfl, _, _, rfl, rfl, _, rfl, ?_⟩
      have q : Q (.bl (decide (lo ≤ i) && decide (i ≤ hi))) H := q
      by_cases c : lo ≤ i
      · rw [decide_eq_true c] at q ⊢
        exact iteT ⟨.int hi, rfl, _, _, rfl, rfl, q⟩
      · rw [decide_eq_false c] at q ⊢
        exact iteF q
    | non => exact iteFF rfl q
    | bl _ => exact iteFF rfl q
    | str _ => exact iteFF rfl q
    | lst _ _ => exact iteFF rfl q
    | tup _ _ => exact iteFF rfl q
theorem ok_fits {f a_BOUNDS : Addr} {fd : FuncData} (F : Fun K "fits" "fits" s_fits f fd) (gF : mg "fits" = some (.ref f)) (b : Binds K fd ["kind", "thing", "many"] []) (mg_BOUNDS : mg "BOUNDS" = some (.ref a_BOUNDS)) (hN : TabN K w a_BOUNDS) (c_is_within : Cal P w K mg base 2 "is_within" (spInB K)) : Cal P w K mg base 3 "fits" (spFits K) := by
  refine ⟨f, fd, _, F.ok sc_fits (fun vs H Q E h => ?_) (fun cdv A outer s H vs Q E hr h => ?_), gF, F.kp, b⟩
  · obtain ⟨_, _, _, _, rfl, _⟩ := h
    rfl
  · obtain ⟨k, v, many, d, rfl, hd, q⟩ := h
    refine ⟨_, (pss_cons (ps_if (pt_cmpR op_eq (pv 0) pe_str (nomark _)) (pss_one (ps_ret pe_bl)) pss_nil) (pss_cons (ps_asg (pe_cut (pe_ifExp (pt_cmpR op_eq (pv 0) pe_str (nomark _)) (pe_tup (pa_cons pe_int (pa_cons (pe_op op_sub (pv 2) pe_int) pa_nil))) (pe_ix ix_kdict (pe_glob (v := .ref a_BOUNDS) (by rfl) mg_BOUNDS rfl) (pv 0) (fun _ _ => rfl)))) (pg_tup rfl (pgs_cons (pg_name (i := 3) sc_fits.nd rfl (.inl rfl)) (pgs_cons (pg_name (i := 4) sc_fits.nd rfl (.inl rfl)) pgs_nil)))) (pss_one (ps_ret (pe_c c_is_within hr (by omega) (by rfl) (pa_cons (pv 1) (pa_cons (pv 3) (pa_cons (pv 4) pa_nil)))))))), ?_⟩
    cases k with
    | part => exact ⟨_, rfl, rfl, _, rfl, iteTT (by decide) (q H (Same.refl _))⟩
    | sign =>
      refine ⟨_, rfl, rfl, _, rfl, iteFF (by decide) ⟨fun u H' => Same H H' ∧ ∃ bq, u = .ref bq ∧ SqT K H' bq [.int 0, .int (many - 1)], ⟨_, rfl, rfl, _, rfl, iteTT (by decide) ⟨_, rfl, _, _, rfl, rfl, (by show 2 ≤ sizeLine; decide), fun p np => ⟨same_new np, p, rfl, SqT.of upd_same⟩⟩⟩, ?_⟩⟩
      rintro u H1 ⟨sm, b1, rfl, hb1⟩
      exact ⟨b1, _, rfl, hb1, rfl, _, _, rfl, _, _, rfl, rfl, v, rfl, _, rfl, _, rfl, v, _, _, d, rfl, dp_same sm hd, q _ sm⟩
    | figure =>
      obtain ⟨bq, hkd, hsq⟩ := hN .figure (by decide) (by decide)
      refine ⟨_, rfl, rfl, _, rfl, iteFF (by decide) ⟨fun u H' => Same H H' ∧ ∃ bq, u = .ref bq ∧ SqT K H' bq [.int (bndE .figure).1, .int (bndE .figure).2], ⟨_, rfl, rfl, _, rfl, iteFF (by decide) ⟨_, rfl, a_BOUNDS, _, _, rfl, rfl, hkd, Same.refl _, bq, rfl, hsq _⟩⟩, ?_⟩⟩
      rintro u H1 ⟨sm, b1, rfl, hb1⟩
      exact ⟨b1, _, rfl, hb1, rfl, _, _, rfl, _, _, rfl, rfl, v, rfl, _, rfl, _, rfl, v, _, _, d, rfl, dp_same sm hd, q _ sm⟩
    | place =>
      obtain ⟨bq, hkd, hsq⟩ := hN .place (by decide) (by decide)
      refine ⟨_, rfl, rfl, _, rfl, iteFF (by decide) ⟨fun u H' => Same H H' ∧ ∃ bq, u = .ref bq ∧ SqT K H' bq [.int (bndE .place).1, .int (bndE .place).2], ⟨_, rfl, rfl, _, rfl, iteFF (by decide) ⟨_, rfl, a_BOUNDS, _, _, rfl, rfl, hkd, Same.refl _, bq, rfl, hsq _⟩⟩, ?_⟩⟩
      rintro u H1 ⟨sm, b1, rfl, hb1⟩
      exact ⟨b1, _, rfl, hb1, rfl, _, _, rfl, _, _, rfl, rfl, v, rfl, _, rfl, _, rfl, v, _, _, d, rfl, dp_same sm hd, q _ sm⟩
    | factor =>
      obtain ⟨bq, hkd, hsq⟩ := hN .factor (by decide) (by decide)
      refine ⟨_, rfl, rfl, _, rfl, iteFF (by decide) ⟨fun u H' => Same H H' ∧ ∃ bq, u = .ref bq ∧ SqT K H' bq [.int (bndE .factor).1, .int (bndE .factor).2], ⟨_, rfl, rfl, _, rfl, iteFF (by decide) ⟨_, rfl, a_BOUNDS, _, _, rfl, rfl, hkd, Same.refl _, bq, rfl, hsq _⟩⟩, ?_⟩⟩
      rintro u H1 ⟨sm, b1, rfl, hb1⟩
      exact ⟨b1, _, rfl, hb1, rfl, _, _, rfl, _, _, rfl, rfl, v, rfl, _, rfl, _, rfl, v, _, _, d, rfl, dp_same sm hd, q _ sm⟩
    | line =>
      obtain ⟨bq, hkd, hsq⟩ := hN .line (by decide) (by decide)
      refine ⟨_, rfl, rfl, _, rfl, iteFF (by decide) ⟨fun u H' => Same H H' ∧ ∃ bq, u = .ref bq ∧ SqT K H' bq [.int (bndE .line).1, .int (bndE .line).2], ⟨_, rfl, rfl, _, rfl, iteFF (by decide) ⟨_, rfl, a_BOUNDS, _, _, rfl, rfl, hkd, Same.refl _, bq, rfl, hsq _⟩⟩, ?_⟩⟩
      rintro u H1 ⟨sm, b1, rfl, hb1⟩
      exact ⟨b1, _, rfl, hb1, rfl, _, _, rfl, _, _, rfl, rfl, v, rfl, _, rfl, _, rfl, v, _, _, d, rfl, dp_same sm hd, q _ sm⟩
theorem ok_firstword {f : Addr} {fd : FuncData} (F : Fun K "first_word" "first_word" s_first_word f fd) (gF : mg "first_word" = some (.ref f)) (b : Binds K fd ["thing"] []) (B : Bl mg) : Cal P w K mg base 1 "first_word" (spFirst K) := by
  refine ⟨f, fd, _, F.ok sc_first_word (fun vs H Q E h => ?_) (fun cdv A outer s H vs Q E hr h => ?_), gF, F.kp, b⟩
  · obtain ⟨_, _, _, rfl, _⟩ := h
    rfl
  · obtain ⟨p, x, xs, rfl, hp, q⟩ := h
    refine ⟨_, (pss_cons (ps_if (PW.pt (pw_and (pt_val (pe_callB call_isi (by rfl) B.isinstance (by decide +kernel) (pa_cons (pv 0) (pa_cons (pe_bltn (v := .ty "tuple") (by rfl) B.tuple (by decide +kernel) rfl) pa_nil)))) (pw_and (pt_truth (pv 0) (by intro _; rfl)) (pw_and1 (pt_val (pe_callB call_isi (by rfl) B.isinstance (by decide +kernel) (pa_cons (pe_ix ix_tup (pv 0) pe_int (fun _ _ => rfl)) (pa_cons (pe_bltn (v := .ty "str") (by rfl) B.str (by decide +kernel) rfl) pa_nil)))))))) (pss_one (ps_ret (pe_ix ix_tup (pv 0) pe_int (fun _ _ => rfl)))) pss_nil) (pss_one (ps_ret pe_non))), ?_⟩
    refine ⟨.ref p, rfl, .ref p, .ty "tuple", _, _, true, rfl, .ty _, tyx_tup hp, kit_ty (show kitB "tuple" "tuple" = some true by decide +kernel), true, rfl, iteTT rfl ?_⟩
    refine ⟨.ref p, rfl, true, .inr (.inl ⟨_, hp, rfl⟩), iteTT rfl ?_⟩
    refine ⟨.ref p, rfl, p, _, 0, _, rfl, rfl, hp, at_of (j := 0) rfl rfl, .str x, .ty "str", _, _, true, rfl, .ty _, .base (.str x), kit_ty (show kitB "str" "str" = some true by decide +kernel), true, rfl, iteTT rfl ?_⟩
    exact ⟨.ref p, rfl, p, _, 0, _, rfl, rfl, hp, at_of (j := 0) rfl rfl, q⟩
theorem cutT1 {x : V} {xs : List V} : cutV (x :: xs) (some 1) none = xs := by
  unfold cutV
  rw [show HT.sIx (x :: xs).length 0 (some 1) = min 1 (x :: xs).length from HT.sIx_nat _ 0 1, HT.sIx_none, List.length_cons, show min 1 (xs.length + 1) = 1 by omega]
  show List.take (xs.length + 1 - 1) xs = xs
  rw [Nat.add_sub_cancel, List.take_length]
theorem ok_fitsshape {f : Addr} {fd : FuncData} (F : Fun K "fits_shape" "fits_shape" s_fits_shape f fd) (gF : mg "fits_shape" = some (.ref f)) (b : Binds K fd ["thing", "shape", "many"] []) (B : Bl mg) (c_fits : Cal P w K mg base 3 "fits" (spFits K)) : Cal P w K mg base 4 "fits_shape" (spFitsSh K) := by
  refine ⟨f, fd, _, F.ok sc_fits_shape (fun vs H Q E h => ?_) (fun cdv A outer s H vs Q E hr h => ?_), gF, F.kp, b⟩
  · obtain ⟨_, _, _, _, _, _, _, rfl, _⟩ := h
    rfl
  · obtain ⟨p, sq, many, x, xs, ds, ks, rfl, hp, hds, hsq, hk4, q⟩ := h
    refine ⟨_, (pss_cons (ps_if (pt_cmpR op_ne (pe_callB call_len_seq (by rfl) B.len PySem.boot_len (pa_cons (pv 0) pa_nil)) (pe_op op_add (pe_callB call_len_seq (by rfl) B.len PySem.boot_len (pa_cons (pv 1) pa_nil)) pe_int) (nomark _)) (pss_one (ps_ret pe_bl)) pss_nil) (pss_one (ps_ret (pe_callB (cr_all rfl) (by rfl) B.all (by decide +kernel) (pa_cons (pe_lc (own := [("kind", 3), ("item", 4)]) rfl sc_fits_shape.nd (RZ.pi_zipA (by rfl) B.zip (pa_cons (pv 1) (pa_cons (pe_slice sl_tupA (pv 0) (po_some pe_int) po_none) pa_nil))) (blkOk_by (N := N_fits_shape) (sc := defScope s_fits_shape) (by decide +kernel)) (fun _ _ _ _ _ => pgtK (n := 2) K rfl (pgs_cons (pg_name (i := 3) sc_fits_shape.nd rfl (.inl rfl)) (pgs_cons (pg_name (i := 4) sc_fits_shape.nd rfl (.inl rfl)) pgs_nil))) (fun _ _ _ _ _ => pts_nil) (fun _ _ _ _ _ => pe_c c_fits hr (by omega) (by rfl) (pa_cons (pv 3) (pa_cons (pv 4) (pa_cons (pv 2) pa_nil))))) pa_nil))))), ?_⟩
    have hlx := dpall_len hds
    refine ⟨.ref p, rfl, p, _, rfl, .inr hp, .ref sq, rfl, sq, _, rfl, .inr (hsq _), _, _, rfl, rfl, rfl, _, rfl, ?_⟩
    by_cases c : ds.length = ks.length
    · refine iteFF (by simp [hlx, c]) ?_
      refine ⟨.ref sq, rfl, .ref p, rfl, 1, rfl, ?_⟩
      dsimp only [tNoPart]
      refine slA hp fun H1 c1 sm1 hc1 => ?_
      rw [cutT1] at hc1
      have hlk : (ks.map fun k => V.str (kdn k)).length = xs.length := by rw [List.length_map]; omega
      refine ⟨sq, c1, (ks.map fun k => V.str (kdn k)), xs, rfl, .inr ⟨hsq _, hc1, fun D nD => lc_it (walk_zipT hlk rfl) (fun i H' => Same H1 H' ∧ H' D = some (.lst (((List.zipWith (fitD many) ks ds).take i).map V.bl))) ⟨same_new nD, upd_same⟩ (fun i H' _ h => ⟨hsq _, same_sqt h.1 hc1⟩) ?_ ?_⟩⟩
      · rintro i y H2 H3 hi ⟨sm, hD⟩ ⟨T, k, it, rfl, nT, rfl, e1, e2⟩
        have e1 : (ks.map fun k => V.str (kdn k))[i]? = some k := e1
        have e2 : xs[i]? = some it := e2
        rw [List.getElem?_map] at e1
        cases hk : ks[i]? with
        | none => rw [hk] at e1; cases e1
        | some kk =>
          rw [hk] at e1
          have ek : V.str (kdn kk) = k := Option.some.inj e1
          subst ek
          obtain ⟨dd, hdd, hdp⟩ := dpall_get hds e2
          have sm2 := sm.trans (same_new (o := .tup [V.str (kdn kk), it]) nT)
          have hD2 := same_new (o := .tup [V.str (kdn kk), it]) nT _ _ hD
          refine ⟨T, _, rfl, SqT.of upd_same, rfl, _, _, rfl, _, _, rfl, rfl, rfl, tYes_in ⟨_, rfl, _, rfl, _, rfl, kk, it, many, dd, rfl, dp_same (sm1.trans sm2) hdp, fun H4 sm4 => ?_⟩⟩
          refine ⟨_, sm4 _ _ hD2, ?_, fun b' o eb => ?_, ?_⟩
          · rw [List.length_map, List.length_take]
            exact small1000 (by have : (List.zipWith (fitD many) ks ds).length ≤ 4 := by rw [List.length_zipWith]; omega
                                omega)
          · rw [upd_ne (ne_of_none eb nD)]
            exact sm4 _ _ (sm2 _ _ eb)
          · rw [upd_same, List.take_add_one, show (List.zipWith (fitD many) ks ds)[i]? = some (fitD many kk dd) by rw [List.getElem?_zipWith, hk, hdd], List.map_append]
            rfl
      · rintro H2 ⟨sm, hD⟩
        rw [List.take_of_length_le (by rw [List.length_zipWith]; omega)] at hD
        refine ⟨D, _, rfl, SqL.of hD, ?_⟩
        rw [← fitsD_zip c]
        exact q _ (sm1.trans sm)
    · refine iteTT (by simp [hlx]; omega) ?_
      have := q H (Same.refl _)
      rw [fitsD_ne c] at this
      exact this
theorem ok_hasshape {f a_SHAPES : Addr} {fd : FuncData} (F : Fun K "has_shape" "has_shape" s_has_shape f fd) (gF : mg "has_shape" = some (.ref f)) (b : Binds K fd ["thing", "many"] []) (mg_SHAPES : mg "SHAPES" = some (.ref a_SHAPES)) (hE : TabE K w a_SHAPES) (c_first_word : Cal P w K mg base 1 "first_word" (spFirst K)) (c_fits_shape : Cal P w K mg base 4 "fits_shape" (spFitsSh K)) : Cal P w K mg base 5 "has_shape" (spHasSh K) := by
  refine ⟨f, fd, _, F.ok sc_has_shape (fun vs H Q E h => ?_) (fun cdv A outer s H vs Q E hr h => ?_), gF, F.kp, b⟩
  · obtain ⟨_, _, _, _, _, rfl, _⟩ := h
    rfl
  · obtain ⟨p, many, x, xs, ds, rfl, hp, hds, q⟩ := h
    refine ⟨_, (pss_cons (ps_set (i := 2) sc_has_shape.nd rfl (.inl rfl) (pe_c c_first_word hr (by omega) (by rfl) (pa_cons (pv 0) pa_nil))) (pss_one (ps_ret (pe_and (pe_cmpR op_inKd (pv 2) (pe_glob (v := .ref a_SHAPES) (by rfl) mg_SHAPES rfl) (by rfl)) (pe_one (pe_c c_fits_shape hr (by omega) (by rfl) (pa_cons (pv 0) (pa_cons (pe_ix ix_kdict (pe_glob (v := .ref a_SHAPES) (by rfl) mg_SHAPES rfl) (pv 2) (fun _ _ => rfl)) (pa_cons (pv 1) pa_nil))))))))), ?_⟩
    obtain ⟨sq, hkd, hsq⟩ := hE.2 x
    refine ⟨.ref p, rfl, p, _, xs, rfl, hp, _, rfl, _, a_SHAPES, _, rfl, rfl, hkd, hE.1, true, rfl, iteTT rfl ?_⟩
    exact ⟨.ref p, rfl, _, rfl, a_SHAPES, _, .ref sq, rfl, rfl, hkd, _, rfl, p, sq, many, _, xs, ds, _, rfl, hp, hds, hsq, wsh_len x, q⟩
def pkK : List Kd → List V → List V
  | k :: ks, d :: ds => if k = .part then d :: pkK ks ds else pkK ks ds
  | _, _ => []
theorem pkK_len : ∀ (ks : List Kd) (ds : List V), (pkK ks ds).length ≤ ds.length
  | [], _ => Nat.zero_le _
  | _ :: _, [] => Nat.zero_le _
  | k :: ks, d :: ds => by
    have := pkK_len ks ds
    unfold pkK
    split <;> simp only [List.length_cons] <;> omega
theorem pkK_snoc : ∀ {ks : List Kd} {ds : List V} {i : Nat} {k : Kd} {d : V}, ks[i]? = some k → ds[i]? = some d → pkK (ks.take (i + 1)) (ds.take (i + 1)) = pkK (ks.take i) (ds.take i) ++ (if k = .part then [d] else [])
  | [], _, i, _, _, h, _ => by simp at h
  | _ :: _, [], i, _, _, _, h => by simp at h
  | k0 :: ks, d0 :: ds, 0, k, d, h, h2 => by
    have e1 : k0 = k := Option.some.inj h
    have e2 : d0 = d := Option.some.inj h2
    subst e1 e2
    simp [pkK]
  | k0 :: ks, d0 :: ds, i + 1, k, d, h, h2 => by
    have ih := pkK_snoc (ks := ks) (ds := ds) (i := i) h h2
    rw [List.take_succ_cons, List.take_succ_cons, List.take_succ_cons, List.take_succ_cons]
    unfold pkK
    split
    · rw [ih, List.cons_append]
    · exact ih
theorem pkK_dp {K : PySem.W.Frag} {H : Hp} : ∀ {ks : List Kd} {ds : List PyData} {xs : List V}, DpAll K H xs ds → DpAll K H (pkK ks xs) (partsD ks ds)
  | [], [], _, .nil => .nil
  | [], _ :: _, _, .cons _ _ => .nil
  | _ :: _, [], _, .nil => .nil
  | k :: ks, d :: ds, _, .cons a b => by
    unfold pkK partsD
    split
    · exact .cons a (pkK_dp b)
    · exact pkK_dp b
theorem ok_partsD {f a_SHAPES : Addr} {fd : FuncData} (F : Fun K "parts" "parts" s_parts f fd) (gF : mg "parts" = some (.ref f)) (b : Binds K fd ["expression"] []) (B : Bl mg) (mg_SHAPES : mg "SHAPES" = some (.ref a_SHAPES)) (hE : TabE K w a_SHAPES) : Cal P w K mg base 1 "parts" (spPartsD K) := by
  refine ⟨f, fd, _, F.ok sc_parts (fun vs H Q E h => ?_) (fun cdv A outer s H vs Q E hr h => ?_), gF, F.kp, b⟩
  · obtain ⟨_, _, _, _, rfl, _⟩ := h
    rfl
  · obtain ⟨p, x, xs, ds, rfl, hp, hds, hl, q⟩ := h
    obtain ⟨sq, hkd, hsq⟩ := hE.2 x
    have hlx := dpall_len hds
    have hl4 := wsh_len x
    refine ⟨_, (pss_cons (ps_set (i := 1) sc_parts.nd rfl (.inl rfl) (pe_ix ix_kdict (pe_glob (v := .ref a_SHAPES) (by rfl) mg_SHAPES rfl) (pe_ix ix_tup (pv 0) pe_int (fun _ _ => rfl)) (fun _ _ => rfl))) (pss_one (ps_ret (pe_lc (own := [("kind", 2), ("item", 3)]) rfl sc_parts.nd (RZ.pi_zipA (by rfl) B.zip (pa_cons (pv 1) (pa_cons (pe_slice sl_tup (pv 0) (po_some pe_int) po_none) pa_nil))) (blkOk_by (N := N_parts) (sc := defScope s_parts) (by decide +kernel)) (fun _ _ _ _ _ => pgtK (n := 2) K rfl (pgs_cons (pg_name (i := 2) sc_parts.nd rfl (.inl rfl)) (pgs_cons (pg_name (i := 3) sc_parts.nd rfl (.inl rfl)) pgs_nil))) (fun _ _ _ _ _ => pts_one (pt_cmpR op_eq (pv 2) pe_str (nomark _))) (fun _ _ _ _ _ => pv 3))))), ?_⟩
    refine ⟨.ref p, rfl, p, _, 0, _, rfl, rfl, hp, at_of (j := 0) rfl rfl, a_SHAPES, _, .ref sq, rfl, rfl, hkd, ?_⟩
    refine ⟨.ref sq, rfl, .ref p, rfl, 1, rfl, p, _, rfl, hp, ?_, fun c nc => ?_⟩
    · rw [show HT.sIx (V.str (wen x) :: xs).length 0 (some 1) = min 1 (V.str (wen x) :: xs).length from HT.sIx_nat _ 0 1, List.length_cons]
      have : 0 < (wsh x).length := by cases x <;> exact Nat.succ_pos _
      omega
    rw [cutT1]
    have smc : Same H (upd H c (.tup xs)) := same_new nc
    have hc : (upd H c (.tup xs)) c = some (.tup xs) := upd_same
    have hlk : ((wsh x).map fun k => V.str (kdn k)).length = xs.length := by rw [List.length_map]; omega
    refine ⟨sq, c, _, xs, rfl, .inr ⟨hsq _, SqT.of hc, fun D nD => lc_it (walk_zipT hlk rfl) (fun i H' => Same (upd H c (.tup xs)) H' ∧ H' D = some (.lst (pkK ((wsh x).take i) (xs.take i)))) ⟨same_new nD, upd_same⟩ (fun i H' _ h => ⟨hsq _, SqT.of (h.1 _ _ hc)⟩) ?_ ?_⟩⟩
    · rintro i y H1 H2 hi ⟨sm, hD⟩ ⟨T, k, it, rfl, nT, rfl, e1, e2⟩
      have e1 : ((wsh x).map fun k => V.str (kdn k))[i]? = some k := e1
      have e2 : xs[i]? = some it := e2
      rw [List.getElem?_map] at e1
      cases hk : (wsh x)[i]? with
      | none => rw [hk] at e1; cases e1
      | some kk =>
        rw [hk] at e1
        have ek : V.str (kdn kk) = k := Option.some.inj e1
        subst ek
        obtain ⟨dd, hdd, hdp⟩ := dpall_get hds e2
        have sT := same_new (o := .tup [V.str (kdn kk), it]) nT
        have sm2 := sm.trans sT
        have hD2 := sT _ _ hD
        refine ⟨T, _, rfl, SqT.of upd_same, rfl, _, _, rfl, _, _, rfl, rfl, rfl, .str (kdn kk), rfl, rfl, _, rfl, ?_⟩
        by_cases cq : kk = .part
        · subst cq
          refine iteTT (by decide) ⟨it, rfl, _, hD2, ?_, fun b' o eb => ?_, ?_⟩
          · refine small1000 (Nat.le_trans (pkK_len _ _) ?_)
            rw [List.length_take]
            omega
          · rw [upd_ne (ne_of_none eb nD)]
            exact sm2 _ _ eb
          · rw [upd_same, pkK_snoc hk e2, if_pos rfl]
        · refine iteFF (by cases kk <;> first | exact absurd rfl cq | decide) ⟨sm2, ?_⟩
          rw [hD2, pkK_snoc hk e2, if_neg cq, List.append_nil]
    · rintro H1 ⟨sm, hD⟩
      rw [List.take_of_length_le (by rw [← hlk, List.length_map]; exact Nat.le_refl _), List.take_length] at hD
      have smt := smc.trans sm
      exact q _ D _ smt (smc.free nD) hD (dpall_same smt (pkK_dp hds))
end
end NG

namespace NG
open PySem PySem.Spec PyProof.Rows L2
def spIsName (K : PySem.W.Frag) : Sp := fun vs H Q _ => ∃ (z : Str), vs = [.str z] ∧ z.length ≤ 1000 ∧ ∀ H', Same H H' → Q (.bl (nameD z)) H'
def spCntB (K : PySem.W.Frag) (n : Nat) : Sp := fun vs H Q _ => ∃ (v : V) (many : Int) (k : Nat) (d : PyData), vs = [v, .int many, .int (k : Int)] ∧ k < n ∧ Dp K H v d ∧ wdB many k d ∧ ∀ H', Same H H' → Q (optV (cntB many k d)) H'
def spDeed (K : PySem.W.Frag) (n : Nat) : Sp := fun vs H Q _ => ∃ (p : Addr) (many : Int) (k : Nat) (w : Wb) (xs : List V) (es : List PyData), vs = [.ref p, .int many, .int ((k : Int) + 1)] ∧ k < n ∧ SqT K H p (.str (wbn w) :: xs) ∧ DpAll K H xs es ∧ (fitsD many (wbsh w) es = true → ∀ y ∈ es.drop 2, wdB many k y) ∧ ∀ H', Same H H' → Q (optV (deedD many (cntB many k) (.tuple (.str (wbn w) :: es)))) H'
theorem addE_drop {l : List Nat} {t i j : Nat} (h : l[i]? = some j) : addE t (l.drop i) = if j = 0 then 0 else addE (t + j) (l.drop (i + 1)) := by
  have hi := (List.getElem?_eq_some_iff.mp h).1
  rw [List.drop_eq_getElem_cons hi, (List.getElem?_eq_some_iff.mp h).2]
  rfl
theorem addB_drop {l : List (Option Nat)} {t i : Nat} {j : Option Nat} (h : l[i]? = some j) : addB t (l.drop i) = j.bind fun n => addB (t + n) (l.drop (i + 1)) := by
  have hi := (List.getElem?_eq_some_iff.mp h).1
  rw [List.drop_eq_getElem_cons hi, (List.getElem?_eq_some_iff.mp h).2]
  cases j <;> rfl
theorem sumB_drop {l : List (Option Nat)} {t i : Nat} {j : Option Nat} (h : l[i]? = some j) : sumB t (l.drop i) = j.bind fun n => if 20 < t + n then none else sumB (t + n) (l.drop (i + 1)) := by
  have hi := (List.getElem?_eq_some_iff.mp h).1
  rw [List.drop_eq_getElem_cons hi, (List.getElem?_eq_some_iff.mp h).2]
  cases j <;> rfl
theorem cutT3 {x : V} {xs : List V} : cutV (x :: xs) (some 3) none = xs.drop 2 := by
  unfold cutV
  rw [show HT.sIx (x :: xs).length 0 (some 3) = min 3 (x :: xs).length from HT.sIx_nat _ 0 3, HT.sIx_none, List.length_cons]
  by_cases c : 2 ≤ xs.length
  · rw [show min 3 (xs.length + 1) = 3 by omega]
    show List.take (xs.length + 1 - 3) (xs.drop 2) = xs.drop 2
    rw [List.take_of_length_le (by rw [List.length_drop]; omega)]
  · rw [show min 3 (xs.length + 1) = xs.length + 1 by omega]
    rw [show xs.drop 2 = [] from List.drop_of_length_le (by omega), show (x :: xs).drop (xs.length + 1) = [] from List.drop_of_length_le (by simp), List.take_nil]
section
variable {P : Program} {w : World} {K : PySem.W.Frag} {mg : Str → Option Value} {base : Heap}
theorem ok_cntE {f : Addr} {fd : FuncData} (F : Fun K "count_parts" "count_parts" s_count_parts f fd) (gF : mg "count_parts" = some (.ref f)) (b : Binds K fd ["thing", "many", "deep"] []) (c_has_shape : Cal P w K mg base 5 "has_shape" (spHasSh K)) (c_parts : Cal P w K mg base 1 "parts" (spPartsD K)) : ∀ n, Cal P w K mg base (n + 6) "count_parts" (spCntE K n)
  | 0 => cal_never F gF b fun vs H Q E => by rintro ⟨_, _, k, _, _, hk, _⟩; omega
  | n + 1 => by
    have c_count_parts := ok_cntE F gF b c_has_shape c_parts n
    refine ⟨f, fd, _, F.ok sc_count_parts (fun vs H Q E h => ?_) (fun cdv A outer s H vs Q E hr h => ?_), gF, F.kp, b⟩
    · obtain ⟨_, _, _, _, rfl, _⟩ := h
      rfl
    · obtain ⟨v, many, k, d, rfl, hk, hd, hw, q⟩ := h
      refine ⟨_, (pss_cons (ps_if (PW.pt (pw_or (pt_cmpR op_eq (pv 2) pe_int (nomark _)) (pw_or1 (pt_not (pt_val (pe_c c_has_shape hr (by omega) (by rfl) (pa_cons (pv 0) (pa_cons (pv 1) pa_nil)))))))) (pss_one (ps_ret pe_int)) pss_nil) (pss_cons (ps_set (i := 3) sc_count_parts.nd rfl (.inl rfl) pe_int) (pss_cons (ps_for PassesOwn.never rfl (pi_list (pe_c c_parts hr (by omega) (by rfl) (pa_cons (pv 0) pa_nil))) (pg_name (i := 4) sc_count_parts.nd rfl (.inl rfl)) (pss_cons (ps_set (i := 5) sc_count_parts.nd rfl (.inl rfl) (pe_c c_count_parts hr (by omega) (by rfl) (pa_cons (pv 4) (pa_cons (pv 1) (pa_cons (pe_op op_sub (pv 2) pe_int) pa_nil))))) (pss_cons (ps_if (pt_cmpR op_eq (pv 5) pe_int (nomark _)) (pss_one (ps_ret pe_int)) pss_nil) (pss_one (ps_aug (i := 3) sc_count_parts.nd rfl (.inl rfl) (pv 5) ip_add))))) (pss_one (ps_ret (pv 3)))))), ?_⟩
      cases k with
      | zero => exact ⟨_, rfl, rfl, _, rfl, iteTT (by rfl) (iteTT rfl (q _ (Same.refl _)))⟩
      | succ k =>
        obtain ⟨x, ds, rfl, hwd⟩ := hw
        cases hd with
        | @tup p xs0 _ hp ha =>
          cases ha with
          | @cons y xs _ _ hy hds =>
            cases hy
            rw [cntE_eq] at q
            refine ⟨_, rfl, rfl, _, rfl, iteFF (by rw [decide_eq_false (by intro e; cases e)]) ?_⟩
            refine ⟨_, rfl, _, rfl, p, many, x, xs, ds, rfl, hp, hds, fun H1 sm1 => ⟨_, rfl, ?_⟩⟩
            by_cases c : fitsD many (wsh x) ds = true
            · rw [if_pos c] at q
              rw [c]
              refine iteFF rfl ?_
              refine ⟨_, rfl, p, x, xs, ds, rfl, same_sqt sm1 hp, dpall_same sm1 hds, fitsD_len c, fun H2 l us sm2 nl hl hus => ?_⟩
              have hlen := dpall_len hus
              refine ⟨l, rfl, ⟨_, SqL.of hl⟩, for_list (xs := us) (fun i σ H' => ∃ (t : Nat) (y4 y5 : Option V), σ = [some (.ref p), some (.int many), some (.int ((k + 1 : Nat) : Int)), some (.int (t : Int)), y4, y5] ∧ Same H2 H' ∧ addE 1 ((partsD (wsh x) ds).map (cntE many k)) = addE t (((partsD (wsh x) ds).map (cntE many k)).drop i)) ⟨1, none, none, rfl, Same.refl _, rfl⟩ (fun i σ H' _ h => ?_) ?_ ?_⟩
              · obtain ⟨_, _, _, _, sm, _⟩ := h
                exact SqL.of (sm _ _ hl)
              · rintro i y σ H3 hy ⟨t, y4, y5, rfl, sm3, e⟩
                obtain ⟨dd, hdd, hdp⟩ := dpall_get hus hy
                have hm : ((partsD (wsh x) ds).map (cntE many k))[i]? = some (cntE many k dd) := by rw [List.getElem?_map, hdd]; rfl
                rw [addE_drop hm] at e
                refine ⟨_, rfl, _, rfl, _, rfl, _, _, rfl, rfl, y, many, k, dd, ?_, by omega, dp_same sm3 hdp, hwd c dd (List.mem_of_getElem? hdd), fun H4 sm4 => ?_⟩
                · show [y, V.int many, V.int (((k + 1 : Nat) : Int) - 1)] = _
                  rw [show ((k + 1 : Nat) : Int) - 1 = (k : Int) by omega]
                by_cases c0 : cntE many k dd = 0
                · rw [if_pos c0] at e
                  rw [e] at q
                  exact ⟨_, rfl, rfl, _, rfl, iteTT (by rw [c0]; rfl) (q _ (((sm1.trans sm2).trans sm3).trans sm4))⟩
                · rw [if_neg c0] at e
                  refine ⟨_, rfl, rfl, _, rfl, iteFF (decide_eq_false fun e => c0 (by have := V.int.inj e; omega)) ?_⟩
                  exact ⟨_, rfl, _, rfl, _, _, rfl, rfl, t + cntE many k dd, _, _, rfl, sm3.trans sm4, e⟩
              · rintro σ H3 ⟨t, y4, y5, rfl, sm3, e⟩
                rw [List.drop_of_length_le (by rw [List.length_map, hlen]; exact Nat.le_refl _)] at e
                rw [e] at q
                exact ⟨_, rfl, q _ ((sm1.trans sm2).trans sm3)⟩
            · rw [if_neg c] at q
              rw [Bool.not_eq_true] at c
              rw [c]
              exact iteTT rfl (q _ sm1)
theorem fn_isex {f : Addr} {fd : FuncData} (F : Fun K "is_expression" "is_expression" s_is_expression f fd) {t1 t2 : Tok} (mg_MOST_DEEP : mg "MOST_DEEP" = some (.int 8 t1)) (mg_MOST_PARTS : mg "MOST_PARTS" = some (.int 40 t2)) (c_count_parts : Cal P w K mg base 15 "count_parts" (spCntE K 9)) : FnOk P w K mg base CX0 16 f fd ["thing", "many"] (spIsEx K) := by
  refine F.ok sc_is_expression (fun vs H Q E h => ?_) (fun cdv A outer s H vs Q E hr h => ?_)
  · obtain ⟨_, _, _, rfl, _⟩ := h
    rfl
  · obtain ⟨v, many, d, rfl, hd, hw, q⟩ := h
    refine ⟨_, (pss_one (ps_ret (pe_chain op_le op_le pe_int (pe_c c_count_parts hr (by omega) (by rfl) (pa_cons (pv 0) (pa_cons (pv 1) (pa_cons (pe_glob (v := .int (8)) (by rfl) mg_MOST_DEEP ⟨_, rfl⟩) pa_nil)))) (pe_glob (v := .int (40)) (by rfl) mg_MOST_PARTS ⟨_, rfl⟩)))), ?_⟩
    refine ⟨_, rfl, _, rfl, v, many, 8, d, rfl, by decide, hd, hw, fun H1 sm1 => ?_⟩
    have q := q H1 sm1
    unfold isEx at q
    refine ⟨_, _, rfl, rfl, _, rfl, ?_⟩
    by_cases c : 1 ≤ cntE many 8 d
    · rw [decide_eq_true c, Bool.true_and] at q
      refine iteTT (decide_eq_true (by omega)) ⟨_, _, rfl, rfl, ?_⟩
      show Q (.bl (decide (((cntE many 8 d : Nat) : Int) ≤ 40))) H1
      rw [show decide (((cntE many 8 d : Nat) : Int) ≤ 40) = decide (cntE many 8 d ≤ 40) by rw [decide_eq_decide]; omega]
      exact q
    · rw [decide_eq_false c, Bool.false_and] at q
      exact iteFF (decide_eq_false (by omega)) q
end
end NG

namespace NG
open PySem PySem.Spec PyProof.Rows L2
def spTold (K : PySem.W.Frag) : Sp := fun vs H Q _ => ∃ (v : V) (many : Nat) (d : PyData) (due : Bool), vs = [v, .int (many : Int), .bl due] ∧ Dp K H v d ∧ wdE many 8 d ∧ isEx many d = due ∧ ∀ H', Same H H' → Q (.bl true) H'
section
variable {P : Program} {w : World} {K : PySem.W.Frag} {mg : Str → Option Value} {base : Heap}
theorem ok_told {f : Addr} {fd : FuncData} (F : Fun K "_law_told_so" "_law_told_so" s_L_told_so f fd) (gF : mg "_law_told_so" = some (.ref f)) (b : Binds K fd ["_law_item", "_law_signs", "_law_due"] []) (B : Bl mg) (c_is_expression : Cal P w K mg base 16 "is_expression" (spIsEx K)) (k_is_expression : CalKO P w K mg base 16 "is_expression" ["thing", "many"] (spIsEx K)) : CalG P w K mg base 17 "_law_told_so" (spTold K) := by
  refine ⟨f, fd, _, fnG F sc_L_told_so (fun vs H Q E h => ?_) (fun cdv A outer s H vs Q hg hr h => ?_), gF, F.kp, b⟩
  · obtain ⟨_, _, _, _, rfl, _⟩ := h
    rfl
  · obtain ⟨v, many, d, due, rfl, hd, hw, he, q⟩ := h
    refine ⟨_, (pss_one (ps_ret (pe_cmpR op_eq (pe_callB (cr_repr hg hr.units) (by rfl) B.repr (by decide +kernel) (pa_cons (pe_lst (pa_cons (pe_c c_is_expression hr (by omega) (by rfl) (pa_cons (pv 0) (pa_cons (pv 1) pa_nil))) (pa_cons (pe_kwO k_is_expression hg hr (by omega) (by rfl) (pk_cons (pv 0) (pk_cons (pv 1) pk_nil))) pa_nil))) pa_nil)) (pe_callB (cr_repr hg hr.units) (by rfl) B.repr (by decide +kernel) (pa_cons (pe_lst (pa_cons (pv 2) (pa_cons (pv 2) pa_nil))) pa_nil)) (nomark _)))), ?_⟩
    have two_le : 2 ≤ sizeLine := by decide
    have dpb : ∀ {Hq : Hp} {l : Addr}, Hq l = some (.lst [.bl due, .bl due]) → Dp K Hq (.ref l) (.list [.bool due, .bool due]) := fun h => .lst (SqL.of h) (.cons (.bl _) (.cons (.bl _) .nil))
    have h1 : (PyData.list [.bool due, .bool due]).showable = true := by cases due <;> decide +kernel
    have h2 : (PyData.list [.bool due, .bool due]).depth ≤ 60 := by cases due <;> decide +kernel
    have h3 : (PyData.list [.bool due, .bool due]).shown.length ≤ sizeLine := by cases due <;> decide +kernel
    refine ⟨v, rfl, .int (many : Int), rfl, v, many, d, rfl, hd, hw, fun H1 sm1 => ⟨v, rfl, .int (many : Int), rfl, rfl, v, many, d, rfl, dp_same sm1 hd, hw, fun H2 sm2 => ⟨two_le, fun l3 n3 => ?_⟩⟩⟩
    rw [he] at *
    have s3 := same_new (o := .lst [.bl due, .bl due]) n3
    refine ⟨l3, _, rfl, dpb upd_same, h1, h2, h3, _, rfl, _, rfl, two_le, fun l4 n4 => ⟨l4, _, rfl, dpb upd_same, h1, h2, h3, rfl, ?_⟩⟩
    rw [decide_eq_true rfl]
    exact q _ ((sm1.trans sm2).trans (s3.trans (same_new n4)))
end
end NG

namespace NG
open PySem PySem.Spec PyProof.Rows L2
def EdgeOk (many : Nat) (d : PyData) (due : Bool) : Prop := tpo d = true ∧ (∀ k, wdE many k d) ∧ ((due = true ∧ ∃ e, d = toD e ∧ ExOk many e ∧ e.dep ≤ 2 ∧ e.size ≤ 3) ∨ (due = false ∧ ∀ k, cntE many k d = 0))
def PairAt (K : PySem.W.Frag) (H : Hp) (many : Nat) (u : V) : Prop := ∃ (p : Addr) (it : V) (due : Bool) (d : PyData), u = .ref p ∧ SqT K H p [it, .bl due] ∧ Dp K H it d ∧ EdgeOk many d due
theorem PairAt.same {K : PySem.W.Frag} {H H' : Hp} {many : Nat} {u : V} (h : PairAt K H many u) (s : Same H H') : PairAt K H' many u := by
  obtain ⟨p, it, due, d, e, q, hd, ho⟩ := h
  exact ⟨p, it, due, d, e, same_sqt s q, dp_same s hd, ho⟩
theorem PairAt.imp {K : PySem.W.Frag} {H H' : Hp} {many : Nat} {u : V} (x : PairAt K H many u) (h : ∀ p xs, SqT K H p xs → SqT K H' p xs) : PairAt K H' many u := by
  obtain ⟨p, it, due, d, e, q, hd, ho⟩ := x
  exact ⟨p, it, due, d, e, h _ _ q, dp_imp h ho.1 hd, ho⟩
theorem edge_good {many : Nat} {e : Ex} (h : ExOk many e) (hd : e.dep ≤ 2) (hs : e.size ≤ 3) : EdgeOk many (toD e) true := ⟨tpo_ex e, fun _ => wdE_of h, .inl ⟨rfl, e, rfl, h, hd, hs⟩⟩
/-- no fit, no parts counted -/
theorem edge_bad {many : Nat} {w : We} {ds : List PyData} (ht : tpoAll ds = true) (hf : fitsD many (wsh w) ds = false) : EdgeOk many (.tuple (.str (wen w) :: ds)) false := by
  refine ⟨by show (true && tpoAll ds) = true; rw [ht]; rfl, fun k => ?_, .inr ⟨rfl, fun k => ?_⟩⟩
  · cases k with
    | zero => exact ⟨w, ds, rfl⟩
    | succ k => exact ⟨w, ds, rfl, fun z => by rw [hf] at z; cases z⟩
  · cases k with
    | zero => unfold cntE; rfl
    | succ k => rw [cntE_eq, if_neg (by rw [hf]; decide)]
theorem inD_not {lo hi c : Int} (h : ¬ (lo ≤ c ∧ c ≤ hi)) : inD lo hi (.int c) = false := by
  show (decide (lo ≤ c) && decide (c ≤ hi)) = false
  by_cases h1 : lo ≤ c
  · rw [decide_eq_false (fun z => h ⟨h1, z⟩), Bool.and_false]
  · rw [decide_eq_false h1, Bool.false_and]
def lf0 : PyData := toD (.share 0)
theorem e_fig {many : Nat} (c : Int) : EdgeOk many (.tuple [.str "fig", .int c]) (decide (-1000 ≤ c ∧ c ≤ 1000)) := by
  by_cases h : -1000 ≤ c ∧ c ≤ 1000
  · rw [decide_eq_true h]
    exact edge_good (e := .fig c) h (by show 1 ≤ 2; decide) (by show 1 ≤ 3; decide)
  · rw [decide_eq_false h]
    refine edge_bad (w := .fig) rfl ?_
    simp only [wsh, fitsD, fitD]
    rw [inD_not h]
    rfl
theorem e_whenf {many : Nat} (hm : 1 ≤ many) (c : Int) : EdgeOk many (.tuple [.str "when", .int 1, .int c, lf0, lf0]) (decide (-1000 ≤ c ∧ c ≤ 1000)) := by
  by_cases h : -1000 ≤ c ∧ c ≤ 1000
  · rw [decide_eq_true h]
    exact edge_good (e := .when 1 c (.share 0) (.share 0)) ⟨by decide, h, by show 0 < many; omega, by show 0 < many; omega⟩ (by show max 1 1 + 1 ≤ 2; decide) (by show 1 + 1 + 1 ≤ 3; decide)
  · rw [decide_eq_false h]
    refine edge_bad (w := .when) rfl ?_
    simp only [wsh, fitsD, fitD]
    rw [inD_not h]
    simp
theorem e_reg {many : Nat} (c : Int) : EdgeOk many (.tuple [.str "reg", .int c]) (decide (0 ≤ c ∧ c ≤ 3)) := by
  by_cases h : 0 ≤ c ∧ c ≤ 3
  · rw [decide_eq_true h]
    obtain ⟨n, rfl⟩ : ∃ n : Nat, c = (n : Int) := ⟨c.toNat, by omega⟩
    exact edge_good (e := .reg n) (by show n < 4; omega) (by show 1 ≤ 2; decide) (by show 1 ≤ 3; decide)
  · rw [decide_eq_false h]
    refine edge_bad (w := .reg) rfl ?_
    simp only [wsh, fitsD, fitD]
    rw [inD_not h]
    rfl
theorem e_by {many : Nat} (hm : 1 ≤ many) (c : Int) : EdgeOk many (.tuple [.str "by", .int c, lf0]) (decide (0 ≤ c ∧ c ≤ 3)) := by
  by_cases h : 0 ≤ c ∧ c ≤ 3
  · rw [decide_eq_true h]
    obtain ⟨n, rfl⟩ : ∃ n : Nat, c = (n : Int) := ⟨c.toNat, by omega⟩
    exact edge_good (e := .by n (.share 0)) ⟨by omega, by show 0 < many; omega⟩ (by show 1 + 1 ≤ 2; decide) (by show 1 + 1 ≤ 3; decide)
  · rw [decide_eq_false h]
    refine edge_bad (w := .by) rfl ?_
    simp only [wsh, fitsD, fitD]
    rw [inD_not h]
    rfl
theorem e_whenp {many : Nat} (hm : 1 ≤ many) (c : Int) : EdgeOk many (.tuple [.str "when", .int c, .int 0, lf0, lf0]) (decide (0 ≤ c ∧ c ≤ 3)) := by
  by_cases h : 0 ≤ c ∧ c ≤ 3
  · rw [decide_eq_true h]
    obtain ⟨n, rfl⟩ : ∃ n : Nat, c = (n : Int) := ⟨c.toNat, by omega⟩
    exact edge_good (e := .when n 0 (.share 0) (.share 0)) ⟨by omega, ⟨by decide, by decide⟩, by show 0 < many; omega, by show 0 < many; omega⟩ (by show max 1 1 + 1 ≤ 2; decide) (by show 1 + 1 + 1 ≤ 3; decide)
  · rw [decide_eq_false h]
    refine edge_bad (w := .when) rfl ?_
    simp only [wsh, fitsD, fitD]
    rw [inD_not h]
    rfl
theorem e_share {many : Nat} (c : Int) : EdgeOk many (.tuple [.str "share", .int c]) (decide (0 ≤ c ∧ c ≤ (many : Int) - 1)) := by
  by_cases h : 0 ≤ c ∧ c ≤ (many : Int) - 1
  · rw [decide_eq_true h]
    obtain ⟨n, rfl⟩ : ∃ n : Nat, c = (n : Int) := ⟨c.toNat, by omega⟩
    exact edge_good (e := .share n) (by show n < many; omega) (by show 1 ≤ 2; decide) (by show 1 ≤ 3; decide)
  · rw [decide_eq_false h]
    refine edge_bad (w := .share) rfl ?_
    simp only [wsh, fitsD, fitD]
    rw [inD_not h]
    rfl
theorem e_whrs {many : Nat} (hm : 1 ≤ many) (c : Int) : EdgeOk many (.tuple [.str "where", .int c, .int 500, lf0, lf0]) (decide (0 ≤ c ∧ c ≤ (many : Int) - 1)) := by
  by_cases h : 0 ≤ c ∧ c ≤ (many : Int) - 1
  · rw [decide_eq_true h]
    obtain ⟨n, rfl⟩ : ∃ n : Nat, c = (n : Int) := ⟨c.toNat, by omega⟩
    exact edge_good (e := .whr n 500 (.share 0) (.share 0)) ⟨by omega, ⟨by decide, by decide⟩, by show 0 < many; omega, by show 0 < many; omega⟩ (by show max 1 1 + 1 ≤ 2; decide) (by show 1 + 1 + 1 ≤ 3; decide)
  · rw [decide_eq_false h]
    refine edge_bad (w := .whr) rfl ?_
    simp only [wsh, fitsD, fitD]
    rw [inD_not h]
    rfl
theorem e_times {many : Nat} (hm : 1 ≤ many) (c : Int) : EdgeOk many (.tuple [.str "times", .int c, lf0]) (decide (-9 ≤ c ∧ c ≤ 9)) := by
  by_cases h : -9 ≤ c ∧ c ≤ 9
  · rw [decide_eq_true h]
    exact edge_good (e := .times c (.share 0)) ⟨h, by show 0 < many; omega⟩ (by show 1 + 1 ≤ 2; decide) (by show 1 + 1 ≤ 3; decide)
  · rw [decide_eq_false h]
    refine edge_bad (w := .times) rfl ?_
    simp only [wsh, fitsD, fitD]
    rw [inD_not h]
    rfl
theorem e_whrg {many : Nat} (hm : 2 ≤ many) (c : Int) : EdgeOk many (.tuple [.str "where", .int 1, .int c, lf0, lf0]) (decide (1 ≤ c ∧ c ≤ 1000)) := by
  by_cases h : 1 ≤ c ∧ c ≤ 1000
  · rw [decide_eq_true h]
    exact edge_good (e := .whr 1 c (.share 0) (.share 0)) ⟨by omega, h, by show 0 < many; omega, by show 0 < many; omega⟩ (by show max 1 1 + 1 ≤ 2; decide) (by show 1 + 1 + 1 ≤ 3; decide)
  · rw [decide_eq_false h]
    refine edge_bad (w := .whr) rfl ?_
    simp only [wsh, fitsD, fitD]
    rw [inD_not h]
    simp
def spEdges (K : PySem.W.Frag) : Sp := fun vs H Q _ => ∃ many : Nat, vs = [.int (many : Int)] ∧ 2 ≤ many ∧ many ≤ 3 ∧
  ∀ H' L us, Same H H' → H L = none → H' L = some (.lst us) → (∀ u ∈ us, PairAt K H' many u) → us.length ≤ 100 → Q (.ref L) H'
theorem edge_eq {many : Nat} {d : PyData} {b c : Bool} (h : EdgeOk many d b) (e : b = c) : EdgeOk many d c := e ▸ h
theorem add_pairs {K : PySem.W.Frag} {H0 H : Hp} {L lf : Addr} {many : Nat} {us ps : List V} (nHL : H0 L = none) (i1 : Same H0 H) (hL : H L = some (.lst us)) (i3 : SqT K H lf [.str "share", .int 0]) (i4 : ∀ u ∈ us, PairAt K H many u) (i6 : ∀ u ∈ ps, PairAt K H many u) : Same H0 (upd H L (.lst (us ++ ps))) ∧ SqT K (upd H L (.lst (us ++ ps))) lf [.str "share", .int 0] ∧ ∀ u ∈ us ++ ps, PairAt K (upd H L (.lst (us ++ ps))) many u := by
  have put : ∀ p xs, SqT K H p xs → SqT K (upd H L (.lst (us ++ ps))) p xs := fun _ _ h => put_sqt hL h
  refine ⟨fun b' o eb => ?_, put _ _ i3, fun u hu => ?_⟩
  · rw [upd_ne (ne_of_none eb nHL)]
    exact i1 _ _ eb
  · rcases List.mem_append.mp hu with h | h
    · exact (i4 u h).imp put
    · exact (i6 u h).imp put
section
variable {P : Program} {w : World} {K : PySem.W.Frag} {mg : Str → Option Value} {base : Heap}
theorem ok_edges {f : Addr} {fd : FuncData} (F : Fun K "_law_edges" "_law_edges" s_L_edges f fd) (gF : mg "_law_edges" = some (.ref f)) (b : Binds K fd ["_law_signs"] []) (B : Bl mg) : Cal P w K mg base 1 "_law_edges" (spEdges K) := by
  refine ⟨f, fd, _, F.ok sc_L_edges (fun vs H Q E h => ?_) (fun cdv A outer s H vs Q E hr h => ?_), gF, F.kp, b⟩
  · obtain ⟨_, rfl, _⟩ := h
    rfl
  · obtain ⟨many, rfl, hm2, hm3, q⟩ := h
    refine ⟨_, (pss_cons (ps_par (i := 1) (j := 2) rfl sc_L_edges.nd rfl rfl (by decide) rfl rfl (pa_cons (pe_tup (pa_cons pe_str (pa_cons pe_int pa_nil))) (pa_cons (pe_lst pa_nil) pa_nil)) (by rfl)) (pss_cons (ps_for PassesOwn.never rfl (pi_tup (pe_tup (pa_cons (pe_un un_neg pe_int) (pa_cons (pe_un un_neg pe_int) (pa_cons pe_int (pa_cons pe_int (pa_cons pe_int pa_nil))))))) (pg_name (i := 3) sc_L_edges.nd rfl (.inl rfl)) (pss_cons (ps_set (i := 4) sc_L_edges.nd rfl (.inl rfl) (pe_chain op_lt op_lt (pe_un un_neg pe_int) (pv 3) pe_int)) (pss_one (ps_expr (pe_bm PySem.F.plainAttrs_list PySem.F.slot_list_extend PySem.F.type_list_extend mt_extend (pv 2) (pa_cons (pe_lst (pa_cons (pe_tup (pa_cons (pe_tup (pa_cons pe_str (pa_cons (pv 3) pa_nil))) (pa_cons (pv 4) pa_nil))) (pa_cons (pe_tup (pa_cons (pe_tup (pa_cons pe_str (pa_cons pe_int (pa_cons (pv 3) (pa_cons (pv 1) (pa_cons (pv 1) pa_nil)))))) (pa_cons (pv 4) pa_nil))) pa_nil))) pa_nil)))))) (pss_cons (ps_for PassesOwn.never rfl (pi_tup (pe_tup (pa_cons (pe_un un_neg pe_int) (pa_cons pe_int (pa_cons pe_int (pa_cons pe_int pa_nil)))))) (pg_name (i := 3) sc_L_edges.nd rfl (.inl rfl)) (pss_cons (ps_set (i := 4) sc_L_edges.nd rfl (.inl rfl) (pe_chain op_lt op_lt (pe_un un_neg pe_int) (pv 3) pe_int)) (pss_cons (ps_expr (pe_bm PySem.F.plainAttrs_list PySem.F.slot_list_extend PySem.F.type_list_extend mt_extend (pv 2) (pa_cons (pe_lst (pa_cons (pe_tup (pa_cons (pe_tup (pa_cons pe_str (pa_cons (pv 3) pa_nil))) (pa_cons (pv 4) pa_nil))) (pa_cons (pe_tup (pa_cons (pe_tup (pa_cons pe_str (pa_cons (pv 3) (pa_cons (pv 1) pa_nil)))) (pa_cons (pv 4) pa_nil))) pa_nil))) pa_nil))) (pss_one (ps_expr (pe_bm PySem.F.plainAttrs_list PySem.F.slot_list_append PySem.F.type_list_append mt_append (pv 2) (pa_cons (pe_tup (pa_cons (pe_tup (pa_cons pe_str (pa_cons (pv 3) (pa_cons pe_int (pa_cons (pv 1) (pa_cons (pv 1) pa_nil)))))) (pa_cons (pv 4) pa_nil))) pa_nil))))))) (pss_cons (ps_for PassesOwn.never rfl (pi_tup (pe_tup (pa_cons (pe_un un_neg pe_int) (pa_cons pe_int (pa_cons (pe_op op_sub (pv 0) pe_int) (pa_cons (pv 0) pa_nil)))))) (pg_name (i := 3) sc_L_edges.nd rfl (.inl rfl)) (pss_cons (ps_set (i := 4) sc_L_edges.nd rfl (.inl rfl) (pe_chain op_lt op_lt (pe_un un_neg pe_int) (pv 3) (pv 0))) (pss_one (ps_expr (pe_bm PySem.F.plainAttrs_list PySem.F.slot_list_extend PySem.F.type_list_extend mt_extend (pv 2) (pa_cons (pe_lst (pa_cons (pe_tup (pa_cons (pe_tup (pa_cons pe_str (pa_cons (pv 3) pa_nil))) (pa_cons (pv 4) pa_nil))) (pa_cons (pe_tup (pa_cons (pe_tup (pa_cons pe_str (pa_cons (pv 3) (pa_cons pe_int (pa_cons (pv 1) (pa_cons (pv 1) pa_nil)))))) (pa_cons (pv 4) pa_nil))) pa_nil))) pa_nil)))))) (pss_cons (ps_for PassesOwn.never rfl (pi_tup (pe_tup (pa_cons (pe_un un_neg pe_int) (pa_cons (pe_un un_neg pe_int) (pa_cons pe_int (pa_cons pe_int (pa_cons pe_int pa_nil))))))) (pg_name (i := 3) sc_L_edges.nd rfl (.inl rfl)) (pss_one (ps_expr (pe_bm PySem.F.plainAttrs_list PySem.F.slot_list_append PySem.F.type_list_append mt_append (pv 2) (pa_cons (pe_tup (pa_cons (pe_tup (pa_cons pe_str (pa_cons (pv 3) (pa_cons (pv 1) pa_nil)))) (pa_cons (pe_chain op_lt op_lt (pe_un un_neg pe_int) (pv 3) pe_int) pa_nil))) pa_nil))))) (pss_cons (ps_for PassesOwn.never rfl (pi_tup (pe_tup (pa_cons pe_int (pa_cons pe_int (pa_cons pe_int (pa_cons pe_int pa_nil)))))) (pg_name (i := 3) sc_L_edges.nd rfl (.inl rfl)) (pss_one (ps_expr (pe_bm PySem.F.plainAttrs_list PySem.F.slot_list_append PySem.F.type_list_append mt_append (pv 2) (pa_cons (pe_tup (pa_cons (pe_tup (pa_cons pe_str (pa_cons pe_int (pa_cons (pv 3) (pa_cons (pv 1) (pa_cons (pv 1) pa_nil)))))) (pa_cons (pe_chain op_lt op_lt pe_int (pv 3) pe_int) pa_nil))) pa_nil))))) (pss_one (ps_ret (pv 2))))))))), ?_⟩
    have two_le : 2 ≤ sizeLine := by decide
    have four_le : 4 ≤ sizeLine := by decide
    have three_le : 3 ≤ sizeLine := by decide
    have five_le : 5 ≤ sizeLine := by decide
    have kilo : 1000 ≤ sizeLine := by decide
    refine ⟨two_le, fun lf nlf => ⟨(by show 0 ≤ sizeLine; decide), fun L nL => ⟨_, _, rfl, ?_⟩⟩⟩
    have inv0 : ∃ us : List V, Same H (upd (upd H lf (.tup [.str "share", .int 0])) L (.lst [])) ∧ (upd (upd H lf (.tup [.str "share", .int 0])) L (.lst [])) L = some (.lst us) ∧ SqT K (upd (upd H lf (.tup [.str "share", .int 0])) L (.lst [])) lf [.str "share", .int 0] ∧ (∀ u ∈ us, PairAt K (upd (upd H lf (.tup [.str "share", .int 0])) L (.lst [])) many u) ∧ us.length ≤ 0 := ⟨[], (same_new nlf).trans (same_new nL), upd_same, same_sqt (same_new nL) (SqT.of upd_same), (fun u h => by cases h), Nat.le_refl _⟩
    have nHL : H L = none := by
      cases e : H L with
      | none => rfl
      | some o => have := same_new (o := .tup [.str "share", .int 0]) nlf _ _ e; rw [nL] at this; cases this
    generalize upd (upd H lf (.tup [.str "share", .int 0])) L (.lst []) = H0 at inv0
    refine ⟨_, rfl, _, rfl, five_le, fun tt0 nt0 => ?_⟩
    have inv0t : ∃ us : List V, Same H (upd H0 tt0 (.tup [.int (-1001), .int (-1000), .int 0, .int 1000, .int 1001])) ∧ (upd H0 tt0 (.tup [.int (-1001), .int (-1000), .int 0, .int 1000, .int 1001])) L = some (.lst us) ∧ SqT K (upd H0 tt0 (.tup [.int (-1001), .int (-1000), .int 0, .int 1000, .int 1001])) lf [.str "share", .int 0] ∧ (∀ u ∈ us, PairAt K (upd H0 tt0 (.tup [.int (-1001), .int (-1000), .int 0, .int 1000, .int 1001])) many u) ∧ us.length ≤ 0 := by
      obtain ⟨us, i1, i2, i3, i4, i5⟩ := inv0
      have st := same_new (o := .tup [.int (-1001), .int (-1000), .int 0, .int 1000, .int 1001]) nt0
      exact ⟨us, i1.trans st, st _ _ i2, same_sqt st i3, fun u hu => (i4 u hu).same st, i5⟩
    have htt0 : SqT K (upd H0 tt0 (.tup [.int (-1001), .int (-1000), .int 0, .int 1000, .int 1001])) tt0 [.int (-1001), .int (-1000), .int 0, .int 1000, .int 1001] := SqT.of upd_same
    generalize upd H0 tt0 (.tup [.int (-1001), .int (-1000), .int 0, .int 1000, .int 1001]) = H1t at inv0t htt0 ⊢
    refine ⟨tt0, rfl, ⟨_, htt0⟩, for_tup (xs := [.int (-1001), .int (-1000), .int 0, .int 1000, .int 1001]) (fun i σ H' => ∃ y3 y4, σ = [some (.int (many : Int)), some (.ref lf), some (.ref L), y3, y4] ∧ SqT K H' tt0 [.int (-1001), .int (-1000), .int 0, .int 1000, .int 1001] ∧ ∃ us : List V, Same H H' ∧ H' L = some (.lst us) ∧ SqT K H' lf [.str "share", .int 0] ∧ (∀ u ∈ us, PairAt K H' many u) ∧ us.length ≤ 0 + 2 * i) ⟨_, _, rfl, htt0, inv0t⟩ (fun i σ H' _ h => by obtain ⟨_, _, _, z, _⟩ := h; exact z) ?_ ?_⟩
    · rintro i x σ H1 hx ⟨y3, y4, rfl, htt, us, i1, i2, i3, i4, i5⟩
      obtain ⟨c, rfl⟩ : ∃ c : Int, x = .int c := by
        have := List.mem_of_getElem? hx
        simp only [List.mem_cons, List.not_mem_nil, or_false] at this
        rcases this with rfl | rfl | rfl | rfl | rfl <;> exact ⟨_, rfl⟩
      have hi5 : i < 5 := (List.getElem?_eq_some_iff.mp hx).1
      refine ⟨_, rfl, .int c, rfl, _, _, rfl, rfl, _, rfl, iteD (fun c1 => ?_) (fun c1 => ?_)⟩
      · refine ⟨_, _, rfl, rfl, ?_⟩
        refine ⟨.ref L, rfl, .inl ⟨rfl, _, SqL.of i2⟩, .int c, rfl, two_le, fun a0 n0 => ⟨_, rfl, two_le, fun p0 m0 => ⟨.int c, rfl, .ref lf, rfl, .ref lf, rfl, five_le, fun a1 n1 => ⟨_, rfl, two_le, fun p1 m1 => ⟨two_le, fun M nM => ?_⟩⟩⟩⟩⟩
        have se0 := same_new (o := .tup [.str "fig", .int c]) n0
        have se1 := same_new (o := .tup [.ref a0, .bl (decide (c < (1001 : Int)))]) m0
        have se2 := same_new (o := .tup [.str "when", .int 1, .int c, .ref lf, .ref lf]) n1
        have se3 := same_new (o := .tup [.ref a1, .bl (decide (c < (1001 : Int)))]) m1
        have se4 := same_new (o := .lst [.ref p0, .ref p1]) nM
        have sm := (se0.trans (se1.trans (se2.trans (se3.trans se4))))
        have l2 := same_sqt sm i3
        have dl : Dp K _ (.ref lf) lf0 := .tup l2 (.cons (.str _) (.cons (.int _) .nil))
        refine ⟨L, M, us, _, rfl, rfl, sm _ _ i2, upd_same, (by show us.length + 2 ≤ sizeLine; omega), ?_⟩
        obtain ⟨j1, j3, j4⟩ := add_pairs (ps := [.ref p0, .ref p1]) nHL (i1.trans sm) (sm _ _ i2) l2 (fun u hu => (i4 u hu).same sm) (fun u hu => by
          simp only [List.mem_cons, List.not_mem_nil, or_false] at hu
          rcases hu with rfl | rfl
          · exact ⟨p0, .ref a0, (decide (c < (1001 : Int))), _, rfl, same_sqt (se2.trans (se3.trans se4)) (SqT.of upd_same), .tup (same_sqt (se1.trans (se2.trans (se3.trans se4))) (SqT.of upd_same)) (.cons (.str _) (.cons (.int _) .nil)), edge_eq (e_fig c) (by rw [decide_eq_decide]; omega)⟩
          · exact ⟨p1, .ref a1, (decide (c < (1001 : Int))), _, rfl, same_sqt se4 (SqT.of upd_same), .tup (same_sqt (se3.trans se4) (SqT.of upd_same)) (.cons (.str _) (.cons (.int _) (.cons (.int _) (.cons dl (.cons dl .nil))))), edge_eq (e_whenf (by omega) c) (by rw [decide_eq_decide]; omega)⟩)
        have jtt := put_sqt (us' := us ++ [.ref p0, .ref p1]) (sm _ _ i2) (same_sqt sm htt)
        exact ⟨_, _, rfl, jtt, _, j1, upd_same, j3, j4, by rw [List.length_append]; show us.length + 2 ≤ _; omega⟩
      · skip
        refine ⟨.ref L, rfl, .inl ⟨rfl, _, SqL.of i2⟩, .int c, rfl, two_le, fun a0 n0 => ⟨_, rfl, two_le, fun p0 m0 => ⟨.int c, rfl, .ref lf, rfl, .ref lf, rfl, five_le, fun a1 n1 => ⟨_, rfl, two_le, fun p1 m1 => ⟨two_le, fun M nM => ?_⟩⟩⟩⟩⟩
        have se0 := same_new (o := .tup [.str "fig", .int c]) n0
        have se1 := same_new (o := .tup [.ref a0, .bl false]) m0
        have se2 := same_new (o := .tup [.str "when", .int 1, .int c, .ref lf, .ref lf]) n1
        have se3 := same_new (o := .tup [.ref a1, .bl false]) m1
        have se4 := same_new (o := .lst [.ref p0, .ref p1]) nM
        have sm := (se0.trans (se1.trans (se2.trans (se3.trans se4))))
        have l2 := same_sqt sm i3
        have dl : Dp K _ (.ref lf) lf0 := .tup l2 (.cons (.str _) (.cons (.int _) .nil))
        refine ⟨L, M, us, _, rfl, rfl, sm _ _ i2, upd_same, (by show us.length + 2 ≤ sizeLine; omega), ?_⟩
        obtain ⟨j1, j3, j4⟩ := add_pairs (ps := [.ref p0, .ref p1]) nHL (i1.trans sm) (sm _ _ i2) l2 (fun u hu => (i4 u hu).same sm) (fun u hu => by
          simp only [List.mem_cons, List.not_mem_nil, or_false] at hu
          rcases hu with rfl | rfl
          · exact ⟨p0, .ref a0, false, _, rfl, same_sqt (se2.trans (se3.trans se4)) (SqT.of upd_same), .tup (same_sqt (se1.trans (se2.trans (se3.trans se4))) (SqT.of upd_same)) (.cons (.str _) (.cons (.int _) .nil)), edge_eq (e_fig c) (decide_eq_false (by omega))⟩
          · exact ⟨p1, .ref a1, false, _, rfl, same_sqt se4 (SqT.of upd_same), .tup (same_sqt (se3.trans se4) (SqT.of upd_same)) (.cons (.str _) (.cons (.int _) (.cons (.int _) (.cons dl (.cons dl .nil))))), edge_eq (e_whenf (by omega) c) (decide_eq_false (by omega))⟩)
        have jtt := put_sqt (us' := us ++ [.ref p0, .ref p1]) (sm _ _ i2) (same_sqt sm htt)
        exact ⟨_, _, rfl, jtt, _, j1, upd_same, j3, j4, by rw [List.length_append]; show us.length + 2 ≤ _; omega⟩
    · rintro σ H101 ⟨y3, y4, rfl, _, inv1⟩
      have inv1 : ∃ us : List V, Same H H101 ∧ H101 L = some (.lst us) ∧ SqT K H101 lf [.str "share", .int 0] ∧ (∀ u ∈ us, PairAt K H101 many u) ∧ us.length ≤ 10 := inv1
      refine ⟨_, rfl, four_le, fun tt1 nt1 => ?_⟩
      have inv1t : ∃ us : List V, Same H (upd H101 tt1 (.tup [.int (-1), .int 0, .int 3, .int 4])) ∧ (upd H101 tt1 (.tup [.int (-1), .int 0, .int 3, .int 4])) L = some (.lst us) ∧ SqT K (upd H101 tt1 (.tup [.int (-1), .int 0, .int 3, .int 4])) lf [.str "share", .int 0] ∧ (∀ u ∈ us, PairAt K (upd H101 tt1 (.tup [.int (-1), .int 0, .int 3, .int 4])) many u) ∧ us.length ≤ 10 := by
        obtain ⟨us, i1, i2, i3, i4, i5⟩ := inv1
        have st := same_new (o := .tup [.int (-1), .int 0, .int 3, .int 4]) nt1
        exact ⟨us, i1.trans st, st _ _ i2, same_sqt st i3, fun u hu => (i4 u hu).same st, i5⟩
      have htt1 : SqT K (upd H101 tt1 (.tup [.int (-1), .int 0, .int 3, .int 4])) tt1 [.int (-1), .int 0, .int 3, .int 4] := SqT.of upd_same
      generalize upd H101 tt1 (.tup [.int (-1), .int 0, .int 3, .int 4]) = H2t at inv1t htt1 ⊢
      refine ⟨tt1, rfl, ⟨_, htt1⟩, for_tup (xs := [.int (-1), .int 0, .int 3, .int 4]) (fun i σ H' => ∃ y3 y4, σ = [some (.int (many : Int)), some (.ref lf), some (.ref L), y3, y4] ∧ SqT K H' tt1 [.int (-1), .int 0, .int 3, .int 4] ∧ ∃ us : List V, Same H H' ∧ H' L = some (.lst us) ∧ SqT K H' lf [.str "share", .int 0] ∧ (∀ u ∈ us, PairAt K H' many u) ∧ us.length ≤ 10 + 3 * i) ⟨_, _, rfl, htt1, inv1t⟩ (fun i σ H' _ h => by obtain ⟨_, _, _, z, _⟩ := h; exact z) ?_ ?_⟩
      · rintro i x σ H1 hx ⟨y3, y4, rfl, htt, us, i1, i2, i3, i4, i5⟩
        obtain ⟨c, rfl⟩ : ∃ c : Int, x = .int c := by
          have := List.mem_of_getElem? hx
          simp only [List.mem_cons, List.not_mem_nil, or_false] at this
          rcases this with rfl | rfl | rfl | rfl <;> exact ⟨_, rfl⟩
        have hi5 : i < 4 := (List.getElem?_eq_some_iff.mp hx).1
        refine ⟨_, rfl, .int c, rfl, _, _, rfl, rfl, _, rfl, iteD (fun c1 => ?_) (fun c1 => ?_)⟩
        · refine ⟨_, _, rfl, rfl, ?_⟩
          refine ⟨.ref L, rfl, .inl ⟨rfl, _, SqL.of i2⟩, .int c, rfl, two_le, fun a0 n0 => ⟨_, rfl, two_le, fun p0 m0 => ⟨.int c, rfl, .ref lf, rfl, three_le, fun a1 n1 => ⟨_, rfl, two_le, fun p1 m1 => ⟨two_le, fun M nM => ?_⟩⟩⟩⟩⟩
          have se0 := same_new (o := .tup [.str "reg", .int c]) n0
          have se1 := same_new (o := .tup [.ref a0, .bl (decide (c < (4 : Int)))]) m0
          have se2 := same_new (o := .tup [.str "by", .int c, .ref lf]) n1
          have se3 := same_new (o := .tup [.ref a1, .bl (decide (c < (4 : Int)))]) m1
          have se4 := same_new (o := .lst [.ref p0, .ref p1]) nM
          have sm := (se0.trans (se1.trans (se2.trans (se3.trans se4))))
          have l2 := same_sqt sm i3
          have dl : Dp K _ (.ref lf) lf0 := .tup l2 (.cons (.str _) (.cons (.int _) .nil))
          refine ⟨L, M, us, _, rfl, rfl, sm _ _ i2, upd_same, (by show us.length + 2 ≤ sizeLine; omega), ?_⟩
          obtain ⟨j1, j3, j4⟩ := add_pairs (ps := [.ref p0, .ref p1]) nHL (i1.trans sm) (sm _ _ i2) l2 (fun u hu => (i4 u hu).same sm) (fun u hu => by
            simp only [List.mem_cons, List.not_mem_nil, or_false] at hu
            rcases hu with rfl | rfl
            · exact ⟨p0, .ref a0, (decide (c < (4 : Int))), _, rfl, same_sqt (se2.trans (se3.trans se4)) (SqT.of upd_same), .tup (same_sqt (se1.trans (se2.trans (se3.trans se4))) (SqT.of upd_same)) (.cons (.str _) (.cons (.int _) .nil)), edge_eq (e_reg c) (by rw [decide_eq_decide]; omega)⟩
            · exact ⟨p1, .ref a1, (decide (c < (4 : Int))), _, rfl, same_sqt se4 (SqT.of upd_same), .tup (same_sqt (se3.trans se4) (SqT.of upd_same)) (.cons (.str _) (.cons (.int _) (.cons dl .nil))), edge_eq (e_by (by omega) c) (by rw [decide_eq_decide]; omega)⟩)
          have jtt := put_sqt (us' := us ++ [.ref p0, .ref p1]) (sm _ _ i2) (same_sqt sm htt)
          refine ⟨.ref L, rfl, .inl ⟨rfl, _, SqL.of upd_same⟩, .int c, rfl, .ref lf, rfl, .ref lf, rfl, five_le, fun a5 n5 => ⟨_, rfl, two_le, fun p5 m5 => ?_⟩⟩
          have sf0 := same_new (o := .tup [.str "when", .int c, .int 0, .ref lf, .ref lf]) n5
          have sf1 := same_new (o := .tup [.ref a5, .bl (decide (c < (4 : Int)))]) m5
          have sm2 := (sf0.trans sf1)
          have l3 := same_sqt sm2 j3
          have dl2 : Dp K _ (.ref lf) lf0 := .tup l3 (.cons (.str _) (.cons (.int _) .nil))
          have hL2 := sm2 _ _ (upd_same (a := L) (o := .lst (us ++ [.ref p0, .ref p1])))
          refine ⟨L, us ++ [.ref p0, .ref p1], .ref p5, rfl, rfl, hL2, (by rw [List.length_append]; show us.length + 2 < sizeLine; omega), ?_⟩
          obtain ⟨k1, k3, k4⟩ := add_pairs (ps := [.ref p5]) nHL (j1.trans sm2) hL2 l3 (fun u hu => (j4 u hu).same sm2) (fun u hu => by
            rw [List.mem_singleton.mp hu]
            exact ⟨p5, .ref a5, (decide (c < (4 : Int))), _, rfl, SqT.of upd_same, .tup (same_sqt sf1 (SqT.of upd_same)) (.cons (.str _) (.cons (.int _) (.cons (.int _) (.cons dl2 (.cons dl2 .nil))))), edge_eq (e_whenp (by omega) c) (by rw [decide_eq_decide]; omega)⟩)
          exact ⟨_, _, rfl, put_sqt hL2 (same_sqt sm2 jtt), _, k1, upd_same, k3, k4, by rw [List.length_append, List.length_append]; show us.length + 2 + 1 ≤ _; omega⟩
        · skip
          refine ⟨.ref L, rfl, .inl ⟨rfl, _, SqL.of i2⟩, .int c, rfl, two_le, fun a0 n0 => ⟨_, rfl, two_le, fun p0 m0 => ⟨.int c, rfl, .ref lf, rfl, three_le, fun a1 n1 => ⟨_, rfl, two_le, fun p1 m1 => ⟨two_le, fun M nM => ?_⟩⟩⟩⟩⟩
          have se0 := same_new (o := .tup [.str "reg", .int c]) n0
          have se1 := same_new (o := .tup [.ref a0, .bl false]) m0
          have se2 := same_new (o := .tup [.str "by", .int c, .ref lf]) n1
          have se3 := same_new (o := .tup [.ref a1, .bl false]) m1
          have se4 := same_new (o := .lst [.ref p0, .ref p1]) nM
          have sm := (se0.trans (se1.trans (se2.trans (se3.trans se4))))
          have l2 := same_sqt sm i3
          have dl : Dp K _ (.ref lf) lf0 := .tup l2 (.cons (.str _) (.cons (.int _) .nil))
          refine ⟨L, M, us, _, rfl, rfl, sm _ _ i2, upd_same, (by show us.length + 2 ≤ sizeLine; omega), ?_⟩
          obtain ⟨j1, j3, j4⟩ := add_pairs (ps := [.ref p0, .ref p1]) nHL (i1.trans sm) (sm _ _ i2) l2 (fun u hu => (i4 u hu).same sm) (fun u hu => by
            simp only [List.mem_cons, List.not_mem_nil, or_false] at hu
            rcases hu with rfl | rfl
            · exact ⟨p0, .ref a0, false, _, rfl, same_sqt (se2.trans (se3.trans se4)) (SqT.of upd_same), .tup (same_sqt (se1.trans (se2.trans (se3.trans se4))) (SqT.of upd_same)) (.cons (.str _) (.cons (.int _) .nil)), edge_eq (e_reg c) (decide_eq_false (by omega))⟩
            · exact ⟨p1, .ref a1, false, _, rfl, same_sqt se4 (SqT.of upd_same), .tup (same_sqt (se3.trans se4) (SqT.of upd_same)) (.cons (.str _) (.cons (.int _) (.cons dl .nil))), edge_eq (e_by (by omega) c) (decide_eq_false (by omega))⟩)
          have jtt := put_sqt (us' := us ++ [.ref p0, .ref p1]) (sm _ _ i2) (same_sqt sm htt)
          refine ⟨.ref L, rfl, .inl ⟨rfl, _, SqL.of upd_same⟩, .int c, rfl, .ref lf, rfl, .ref lf, rfl, five_le, fun a5 n5 => ⟨_, rfl, two_le, fun p5 m5 => ?_⟩⟩
          have sf0 := same_new (o := .tup [.str "when", .int c, .int 0, .ref lf, .ref lf]) n5
          have sf1 := same_new (o := .tup [.ref a5, .bl false]) m5
          have sm2 := (sf0.trans sf1)
          have l3 := same_sqt sm2 j3
          have dl2 : Dp K _ (.ref lf) lf0 := .tup l3 (.cons (.str _) (.cons (.int _) .nil))
          have hL2 := sm2 _ _ (upd_same (a := L) (o := .lst (us ++ [.ref p0, .ref p1])))
          refine ⟨L, us ++ [.ref p0, .ref p1], .ref p5, rfl, rfl, hL2, (by rw [List.length_append]; show us.length + 2 < sizeLine; omega), ?_⟩
          obtain ⟨k1, k3, k4⟩ := add_pairs (ps := [.ref p5]) nHL (j1.trans sm2) hL2 l3 (fun u hu => (j4 u hu).same sm2) (fun u hu => by
            rw [List.mem_singleton.mp hu]
            exact ⟨p5, .ref a5, false, _, rfl, SqT.of upd_same, .tup (same_sqt sf1 (SqT.of upd_same)) (.cons (.str _) (.cons (.int _) (.cons (.int _) (.cons dl2 (.cons dl2 .nil))))), edge_eq (e_whenp (by omega) c) (decide_eq_false (by omega))⟩)
          exact ⟨_, _, rfl, put_sqt hL2 (same_sqt sm2 jtt), _, k1, upd_same, k3, k4, by rw [List.length_append, List.length_append]; show us.length + 2 + 1 ≤ _; omega⟩
      · rintro σ H102 ⟨y3, y4, rfl, _, inv2⟩
        have inv2 : ∃ us : List V, Same H H102 ∧ H102 L = some (.lst us) ∧ SqT K H102 lf [.str "share", .int 0] ∧ (∀ u ∈ us, PairAt K H102 many u) ∧ us.length ≤ 22 := inv2
        refine ⟨_, rfl, .int (many : Int), rfl, _, _, rfl, rfl, .int (many : Int), rfl, four_le, fun tt2 nt2 => ?_⟩
        have inv2t : ∃ us : List V, Same H (upd H102 tt2 (.tup [.int (-1), .int 0, .int ((many : Int) - 1), .int (many : Int)])) ∧ (upd H102 tt2 (.tup [.int (-1), .int 0, .int ((many : Int) - 1), .int (many : Int)])) L = some (.lst us) ∧ SqT K (upd H102 tt2 (.tup [.int (-1), .int 0, .int ((many : Int) - 1), .int (many : Int)])) lf [.str "share", .int 0] ∧ (∀ u ∈ us, PairAt K (upd H102 tt2 (.tup [.int (-1), .int 0, .int ((many : Int) - 1), .int (many : Int)])) many u) ∧ us.length ≤ 22 := by
          obtain ⟨us, i1, i2, i3, i4, i5⟩ := inv2
          have st := same_new (o := .tup [.int (-1), .int 0, .int ((many : Int) - 1), .int (many : Int)]) nt2
          exact ⟨us, i1.trans st, st _ _ i2, same_sqt st i3, fun u hu => (i4 u hu).same st, i5⟩
        have htt2 : SqT K (upd H102 tt2 (.tup [.int (-1), .int 0, .int ((many : Int) - 1), .int (many : Int)])) tt2 [.int (-1), .int 0, .int ((many : Int) - 1), .int (many : Int)] := SqT.of upd_same
        generalize upd H102 tt2 (.tup [.int (-1), .int 0, .int ((many : Int) - 1), .int (many : Int)]) = H3t at inv2t htt2 ⊢
        refine ⟨tt2, rfl, ⟨_, htt2⟩, for_tup (xs := [.int (-1), .int 0, .int ((many : Int) - 1), .int (many : Int)]) (fun i σ H' => ∃ y3 y4, σ = [some (.int (many : Int)), some (.ref lf), some (.ref L), y3, y4] ∧ SqT K H' tt2 [.int (-1), .int 0, .int ((many : Int) - 1), .int (many : Int)] ∧ ∃ us : List V, Same H H' ∧ H' L = some (.lst us) ∧ SqT K H' lf [.str "share", .int 0] ∧ (∀ u ∈ us, PairAt K H' many u) ∧ us.length ≤ 22 + 2 * i) ⟨_, _, rfl, htt2, inv2t⟩ (fun i σ H' _ h => by obtain ⟨_, _, _, z, _⟩ := h; exact z) ?_ ?_⟩
        · rintro i x σ H1 hx ⟨y3, y4, rfl, htt, us, i1, i2, i3, i4, i5⟩
          obtain ⟨c, rfl⟩ : ∃ c : Int, x = .int c := by
            have := List.mem_of_getElem? hx
            simp only [List.mem_cons, List.not_mem_nil, or_false] at this
            rcases this with rfl | rfl | rfl | rfl <;> exact ⟨_, rfl⟩
          have hi5 : i < 4 := (List.getElem?_eq_some_iff.mp hx).1
          refine ⟨_, rfl, .int c, rfl, _, _, rfl, rfl, _, rfl, iteD (fun c1 => ?_) (fun c1 => ?_)⟩
          · refine ⟨.int (many : Int), rfl, _, _, rfl, rfl, ?_⟩
            refine ⟨.ref L, rfl, .inl ⟨rfl, _, SqL.of i2⟩, .int c, rfl, two_le, fun a0 n0 => ⟨_, rfl, two_le, fun p0 m0 => ⟨.int c, rfl, .ref lf, rfl, .ref lf, rfl, five_le, fun a1 n1 => ⟨_, rfl, two_le, fun p1 m1 => ⟨two_le, fun M nM => ?_⟩⟩⟩⟩⟩
            have se0 := same_new (o := .tup [.str "share", .int c]) n0
            have se1 := same_new (o := .tup [.ref a0, .bl (decide (c < (many : Int)))]) m0
            have se2 := same_new (o := .tup [.str "where", .int c, .int 500, .ref lf, .ref lf]) n1
            have se3 := same_new (o := .tup [.ref a1, .bl (decide (c < (many : Int)))]) m1
            have se4 := same_new (o := .lst [.ref p0, .ref p1]) nM
            have sm := (se0.trans (se1.trans (se2.trans (se3.trans se4))))
            have l2 := same_sqt sm i3
            have dl : Dp K _ (.ref lf) lf0 := .tup l2 (.cons (.str _) (.cons (.int _) .nil))
            refine ⟨L, M, us, _, rfl, rfl, sm _ _ i2, upd_same, (by show us.length + 2 ≤ sizeLine; omega), ?_⟩
            obtain ⟨j1, j3, j4⟩ := add_pairs (ps := [.ref p0, .ref p1]) nHL (i1.trans sm) (sm _ _ i2) l2 (fun u hu => (i4 u hu).same sm) (fun u hu => by
              simp only [List.mem_cons, List.not_mem_nil, or_false] at hu
              rcases hu with rfl | rfl
              · exact ⟨p0, .ref a0, (decide (c < (many : Int))), _, rfl, same_sqt (se2.trans (se3.trans se4)) (SqT.of upd_same), .tup (same_sqt (se1.trans (se2.trans (se3.trans se4))) (SqT.of upd_same)) (.cons (.str _) (.cons (.int _) .nil)), edge_eq (e_share c) (by rw [decide_eq_decide]; omega)⟩
              · exact ⟨p1, .ref a1, (decide (c < (many : Int))), _, rfl, same_sqt se4 (SqT.of upd_same), .tup (same_sqt (se3.trans se4) (SqT.of upd_same)) (.cons (.str _) (.cons (.int _) (.cons (.int _) (.cons dl (.cons dl .nil))))), edge_eq (e_whrs (by omega) c) (by rw [decide_eq_decide]; omega)⟩)
            have jtt := put_sqt (us' := us ++ [.ref p0, .ref p1]) (sm _ _ i2) (same_sqt sm htt)
            exact ⟨_, _, rfl, jtt, _, j1, upd_same, j3, j4, by rw [List.length_append]; show us.length + 2 ≤ _; omega⟩
          · skip
            refine ⟨.ref L, rfl, .inl ⟨rfl, _, SqL.of i2⟩, .int c, rfl, two_le, fun a0 n0 => ⟨_, rfl, two_le, fun p0 m0 => ⟨.int c, rfl, .ref lf, rfl, .ref lf, rfl, five_le, fun a1 n1 => ⟨_, rfl, two_le, fun p1 m1 => ⟨two_le, fun M nM => ?_⟩⟩⟩⟩⟩
            have se0 := same_new (o := .tup [.str "share", .int c]) n0
            have se1 := same_new (o := .tup [.ref a0, .bl false]) m0
            have se2 := same_new (o := .tup [.str "where", .int c, .int 500, .ref lf, .ref lf]) n1
            have se3 := same_new (o := .tup [.ref a1, .bl false]) m1
            have se4 := same_new (o := .lst [.ref p0, .ref p1]) nM
            have sm := (se0.trans (se1.trans (se2.trans (se3.trans se4))))
            have l2 := same_sqt sm i3
            have dl : Dp K _ (.ref lf) lf0 := .tup l2 (.cons (.str _) (.cons (.int _) .nil))
            refine ⟨L, M, us, _, rfl, rfl, sm _ _ i2, upd_same, (by show us.length + 2 ≤ sizeLine; omega), ?_⟩
            obtain ⟨j1, j3, j4⟩ := add_pairs (ps := [.ref p0, .ref p1]) nHL (i1.trans sm) (sm _ _ i2) l2 (fun u hu => (i4 u hu).same sm) (fun u hu => by
              simp only [List.mem_cons, List.not_mem_nil, or_false] at hu
              rcases hu with rfl | rfl
              · exact ⟨p0, .ref a0, false, _, rfl, same_sqt (se2.trans (se3.trans se4)) (SqT.of upd_same), .tup (same_sqt (se1.trans (se2.trans (se3.trans se4))) (SqT.of upd_same)) (.cons (.str _) (.cons (.int _) .nil)), edge_eq (e_share c) (decide_eq_false (by omega))⟩
              · exact ⟨p1, .ref a1, false, _, rfl, same_sqt se4 (SqT.of upd_same), .tup (same_sqt (se3.trans se4) (SqT.of upd_same)) (.cons (.str _) (.cons (.int _) (.cons (.int _) (.cons dl (.cons dl .nil))))), edge_eq (e_whrs (by omega) c) (decide_eq_false (by omega))⟩)
            have jtt := put_sqt (us' := us ++ [.ref p0, .ref p1]) (sm _ _ i2) (same_sqt sm htt)
            exact ⟨_, _, rfl, jtt, _, j1, upd_same, j3, j4, by rw [List.length_append]; show us.length + 2 ≤ _; omega⟩
        · rintro σ H103 ⟨y3, y4, rfl, _, inv3⟩
          have inv3 : ∃ us : List V, Same H H103 ∧ H103 L = some (.lst us) ∧ SqT K H103 lf [.str "share", .int 0] ∧ (∀ u ∈ us, PairAt K H103 many u) ∧ us.length ≤ 30 := inv3
          refine ⟨_, rfl, _, rfl, five_le, fun tt3 nt3 => ?_⟩
          have inv3t : ∃ us : List V, Same H (upd H103 tt3 (.tup [.int (-10), .int (-9), .int 0, .int 9, .int 10])) ∧ (upd H103 tt3 (.tup [.int (-10), .int (-9), .int 0, .int 9, .int 10])) L = some (.lst us) ∧ SqT K (upd H103 tt3 (.tup [.int (-10), .int (-9), .int 0, .int 9, .int 10])) lf [.str "share", .int 0] ∧ (∀ u ∈ us, PairAt K (upd H103 tt3 (.tup [.int (-10), .int (-9), .int 0, .int 9, .int 10])) many u) ∧ us.length ≤ 30 := by
            obtain ⟨us, i1, i2, i3, i4, i5⟩ := inv3
            have st := same_new (o := .tup [.int (-10), .int (-9), .int 0, .int 9, .int 10]) nt3
            exact ⟨us, i1.trans st, st _ _ i2, same_sqt st i3, fun u hu => (i4 u hu).same st, i5⟩
          have htt3 : SqT K (upd H103 tt3 (.tup [.int (-10), .int (-9), .int 0, .int 9, .int 10])) tt3 [.int (-10), .int (-9), .int 0, .int 9, .int 10] := SqT.of upd_same
          generalize upd H103 tt3 (.tup [.int (-10), .int (-9), .int 0, .int 9, .int 10]) = H4t at inv3t htt3 ⊢
          refine ⟨tt3, rfl, ⟨_, htt3⟩, for_tup (xs := [.int (-10), .int (-9), .int 0, .int 9, .int 10]) (fun i σ H' => ∃ y3 y4, σ = [some (.int (many : Int)), some (.ref lf), some (.ref L), y3, y4] ∧ SqT K H' tt3 [.int (-10), .int (-9), .int 0, .int 9, .int 10] ∧ ∃ us : List V, Same H H' ∧ H' L = some (.lst us) ∧ SqT K H' lf [.str "share", .int 0] ∧ (∀ u ∈ us, PairAt K H' many u) ∧ us.length ≤ 30 + 1 * i) ⟨_, _, rfl, htt3, inv3t⟩ (fun i σ H' _ h => by obtain ⟨_, _, _, z, _⟩ := h; exact z) ?_ ?_⟩
          · rintro i x σ H1 hx ⟨y3, y4, rfl, htt, us, i1, i2, i3, i4, i5⟩
            obtain ⟨c, rfl⟩ : ∃ c : Int, x = .int c := by
              have := List.mem_of_getElem? hx
              simp only [List.mem_cons, List.not_mem_nil, or_false] at this
              rcases this with rfl | rfl | rfl | rfl | rfl <;> exact ⟨_, rfl⟩
            have hi5 : i < 5 := (List.getElem?_eq_some_iff.mp hx).1
            refine ⟨.ref L, rfl, .inl ⟨rfl, _, SqL.of i2⟩, .int c, rfl, .ref lf, rfl, three_le, fun a5 n5 => ?_⟩
            refine ⟨_, rfl, .int c, rfl, _, _, rfl, rfl, _, rfl, iteD (fun c1 => ?_) (fun c1 => ?_)⟩
            · refine ⟨_, _, rfl, rfl, two_le, fun p5 m5 => ?_⟩
              have s0 := same_new (o := .tup [.str "times", .int c, .ref lf]) n5
              have s1 := same_new (o := .tup [.ref a5, .bl (decide (c < (10 : Int)))]) m5
              have sm2 := s0.trans s1
              have l3 := same_sqt sm2 i3
              have dl2 : Dp K _ (.ref lf) lf0 := .tup l3 (.cons (.str _) (.cons (.int _) .nil))
              have hL2 := sm2 _ _ i2
              refine ⟨L, us, .ref p5, rfl, rfl, hL2, (by omega), ?_⟩
              obtain ⟨k1, k3, k4⟩ := add_pairs (ps := [.ref p5]) nHL (i1.trans sm2) hL2 l3 (fun u hu => (i4 u hu).same sm2) (fun u hu => by
                rw [List.mem_singleton.mp hu]
                exact ⟨p5, .ref a5, (decide (c < (10 : Int))), _, rfl, SqT.of upd_same, .tup (same_sqt s1 (SqT.of upd_same)) (.cons (.str _) (.cons (.int _) (.cons dl2 .nil))), edge_eq (e_times (by omega) c) (by rw [decide_eq_decide]; omega)⟩)
              exact ⟨_, _, rfl, put_sqt hL2 (same_sqt sm2 htt), _, k1, upd_same, k3, k4, by rw [List.length_append]; show us.length + 1 ≤ _; omega⟩
            · refine ⟨two_le, fun p5 m5 => ?_⟩
              have s0 := same_new (o := .tup [.str "times", .int c, .ref lf]) n5
              have s1 := same_new (o := .tup [.ref a5, .bl false]) m5
              have sm2 := s0.trans s1
              have l3 := same_sqt sm2 i3
              have dl2 : Dp K _ (.ref lf) lf0 := .tup l3 (.cons (.str _) (.cons (.int _) .nil))
              have hL2 := sm2 _ _ i2
              refine ⟨L, us, .ref p5, rfl, rfl, hL2, (by omega), ?_⟩
              obtain ⟨k1, k3, k4⟩ := add_pairs (ps := [.ref p5]) nHL (i1.trans sm2) hL2 l3 (fun u hu => (i4 u hu).same sm2) (fun u hu => by
                rw [List.mem_singleton.mp hu]
                exact ⟨p5, .ref a5, false, _, rfl, SqT.of upd_same, .tup (same_sqt s1 (SqT.of upd_same)) (.cons (.str _) (.cons (.int _) (.cons dl2 .nil))), edge_eq (e_times (by omega) c) (decide_eq_false (by omega))⟩)
              exact ⟨_, _, rfl, put_sqt hL2 (same_sqt sm2 htt), _, k1, upd_same, k3, k4, by rw [List.length_append]; show us.length + 1 ≤ _; omega⟩
          · rintro σ H104 ⟨y3, y4, rfl, _, inv4⟩
            have inv4 : ∃ us : List V, Same H H104 ∧ H104 L = some (.lst us) ∧ SqT K H104 lf [.str "share", .int 0] ∧ (∀ u ∈ us, PairAt K H104 many u) ∧ us.length ≤ 35 := inv4
            refine ⟨four_le, fun tt4 nt4 => ?_⟩
            have inv4t : ∃ us : List V, Same H (upd H104 tt4 (.tup [.int 0, .int 1, .int 1000, .int 1001])) ∧ (upd H104 tt4 (.tup [.int 0, .int 1, .int 1000, .int 1001])) L = some (.lst us) ∧ SqT K (upd H104 tt4 (.tup [.int 0, .int 1, .int 1000, .int 1001])) lf [.str "share", .int 0] ∧ (∀ u ∈ us, PairAt K (upd H104 tt4 (.tup [.int 0, .int 1, .int 1000, .int 1001])) many u) ∧ us.length ≤ 35 := by
              obtain ⟨us, i1, i2, i3, i4, i5⟩ := inv4
              have st := same_new (o := .tup [.int 0, .int 1, .int 1000, .int 1001]) nt4
              exact ⟨us, i1.trans st, st _ _ i2, same_sqt st i3, fun u hu => (i4 u hu).same st, i5⟩
            have htt4 : SqT K (upd H104 tt4 (.tup [.int 0, .int 1, .int 1000, .int 1001])) tt4 [.int 0, .int 1, .int 1000, .int 1001] := SqT.of upd_same
            generalize upd H104 tt4 (.tup [.int 0, .int 1, .int 1000, .int 1001]) = H5t at inv4t htt4 ⊢
            refine ⟨tt4, rfl, ⟨_, htt4⟩, for_tup (xs := [.int 0, .int 1, .int 1000, .int 1001]) (fun i σ H' => ∃ y3 y4, σ = [some (.int (many : Int)), some (.ref lf), some (.ref L), y3, y4] ∧ SqT K H' tt4 [.int 0, .int 1, .int 1000, .int 1001] ∧ ∃ us : List V, Same H H' ∧ H' L = some (.lst us) ∧ SqT K H' lf [.str "share", .int 0] ∧ (∀ u ∈ us, PairAt K H' many u) ∧ us.length ≤ 35 + 1 * i) ⟨_, _, rfl, htt4, inv4t⟩ (fun i σ H' _ h => by obtain ⟨_, _, _, z, _⟩ := h; exact z) ?_ ?_⟩
            · rintro i x σ H1 hx ⟨y3, y4, rfl, htt, us, i1, i2, i3, i4, i5⟩
              obtain ⟨c, rfl⟩ : ∃ c : Int, x = .int c := by
                have := List.mem_of_getElem? hx
                simp only [List.mem_cons, List.not_mem_nil, or_false] at this
                rcases this with rfl | rfl | rfl | rfl <;> exact ⟨_, rfl⟩
              have hi5 : i < 4 := (List.getElem?_eq_some_iff.mp hx).1
              refine ⟨.ref L, rfl, .inl ⟨rfl, _, SqL.of i2⟩, .int c, rfl, .ref lf, rfl, .ref lf, rfl, five_le, fun a5 n5 => ?_⟩
              refine ⟨.int c, rfl, _, _, rfl, rfl, _, rfl, iteD (fun c1 => ?_) (fun c1 => ?_)⟩
              · refine ⟨_, _, rfl, rfl, two_le, fun p5 m5 => ?_⟩
                have s0 := same_new (o := .tup [.str "where", .int 1, .int c, .ref lf, .ref lf]) n5
                have s1 := same_new (o := .tup [.ref a5, .bl (decide (c < (1001 : Int)))]) m5
                have sm2 := s0.trans s1
                have l3 := same_sqt sm2 i3
                have dl2 : Dp K _ (.ref lf) lf0 := .tup l3 (.cons (.str _) (.cons (.int _) .nil))
                have hL2 := sm2 _ _ i2
                refine ⟨L, us, .ref p5, rfl, rfl, hL2, (by omega), ?_⟩
                obtain ⟨k1, k3, k4⟩ := add_pairs (ps := [.ref p5]) nHL (i1.trans sm2) hL2 l3 (fun u hu => (i4 u hu).same sm2) (fun u hu => by
                  rw [List.mem_singleton.mp hu]
                  exact ⟨p5, .ref a5, (decide (c < (1001 : Int))), _, rfl, SqT.of upd_same, .tup (same_sqt s1 (SqT.of upd_same)) (.cons (.str _) (.cons (.int _) (.cons (.int _) (.cons dl2 (.cons dl2 .nil))))), edge_eq (e_whrg (by omega) c) (by rw [decide_eq_decide]; omega)⟩)
                exact ⟨_, _, rfl, put_sqt hL2 (same_sqt sm2 htt), _, k1, upd_same, k3, k4, by rw [List.length_append]; show us.length + 1 ≤ _; omega⟩
              · refine ⟨two_le, fun p5 m5 => ?_⟩
                have s0 := same_new (o := .tup [.str "where", .int 1, .int c, .ref lf, .ref lf]) n5
                have s1 := same_new (o := .tup [.ref a5, .bl false]) m5
                have sm2 := s0.trans s1
                have l3 := same_sqt sm2 i3
                have dl2 : Dp K _ (.ref lf) lf0 := .tup l3 (.cons (.str _) (.cons (.int _) .nil))
                have hL2 := sm2 _ _ i2
                refine ⟨L, us, .ref p5, rfl, rfl, hL2, (by omega), ?_⟩
                obtain ⟨k1, k3, k4⟩ := add_pairs (ps := [.ref p5]) nHL (i1.trans sm2) hL2 l3 (fun u hu => (i4 u hu).same sm2) (fun u hu => by
                  rw [List.mem_singleton.mp hu]
                  exact ⟨p5, .ref a5, false, _, rfl, SqT.of upd_same, .tup (same_sqt s1 (SqT.of upd_same)) (.cons (.str _) (.cons (.int _) (.cons (.int _) (.cons dl2 (.cons dl2 .nil))))), edge_eq (e_whrg (by omega) c) (decide_eq_false (by omega))⟩)
                exact ⟨_, _, rfl, put_sqt hL2 (same_sqt sm2 htt), _, k1, upd_same, k3, k4, by rw [List.length_append]; show us.length + 1 ≤ _; omega⟩
            · rintro σ H105 ⟨y3, y4, rfl, _, inv5⟩
              have inv5 : ∃ us : List V, Same H H105 ∧ H105 L = some (.lst us) ∧ SqT K H105 lf [.str "share", .int 0] ∧ (∀ u ∈ us, PairAt K H105 many u) ∧ us.length ≤ 39 := inv5
              obtain ⟨us, i1, i2, i3, i4, i5⟩ := inv5
              exact ⟨_, rfl, q _ L us i1 nHL i2 i4 (by omega)⟩
end
end NG

namespace NG
open PySem PySem.Spec PyProof.Rows L2
def spLaw (K : PySem.W.Frag) : Sp := fun vs H Q _ => ∃ (a : Addr) (ns : List Int), vs = [.ref a] ∧ SqL K H a (ns.map V.int) ∧ ns.length ≤ 63 ∧ ∀ H', Q (.bl true) H'
theorem edge_ex {many : Nat} {d : PyData} {due : Bool} (h : EdgeOk many d due) : isEx many d = due := by
  rcases h.2.2 with ⟨rfl, e, rfl, oe, de, se⟩ | ⟨rfl, hb⟩
  · rw [isEx_of oe, decide_eq_true ⟨by omega, by omega⟩]
  · exact isEx_bad hb
theorem edge_sunk {many t : Nat} {d d2 : PyData} {due : Bool} (hm : many ≤ 3) (ht : t ≤ 5) (h : EdgeOk many d due) (s : Snks many d t d2) : isEx many d2 = due := by
  rcases h.2.2 with ⟨rfl, e, rfl, oe, de, se⟩ | ⟨rfl, hb⟩
  · obtain ⟨e2, rfl, o2, p2, q2⟩ := snks_good hm s oe
    rw [isEx_of o2, decide_eq_true ⟨by omega, by omega⟩]
  · exact isEx_bad (snks_bad s hb)
section
variable {P : Program} {w : World} {K : PySem.W.Frag} {mg : Str → Option Value} {base : Heap}
theorem ok_law {f : Addr} {fd : FuncData} (F : Fun K "law" "law" s_law f fd) (B : Bl mg) {lw : Nat} (h1 : 17 ≤ lw) (c_L_hand : Cal P w K mg base 1 "_law_hand" (spHand K)) (c_L_take : Cal P w K mg base 1 "_law_take" spTake) (c_L_leaf : Cal P w K mg base 4 "_law_leaf" (spLeaf K)) (c_L_sized : Cal P w K mg base 11 "_law_sized" (spSized K 7)) (c_L_sunk : Cal P w K mg base 5 "_law_sunk" (spSunk K)) (c_L_edges : Cal P w K mg base 1 "_law_edges" (spEdges K)) (c_L_told_so : CalG P w K mg base 17 "_law_told_so" (spTold K)) : FnG P w K mg base (lw + 1) f fd ["_law_script"] (spLaw K) := by
  refine fnG F sc_law (fun vs H Q E h => ?_) (fun cdv A outer s H vs Q hg hr h => ?_)
  · obtain ⟨_, _, rfl, _⟩ := h
    rfl
  · obtain ⟨sc, ns, rfl, hS, hl, q⟩ := h
    refine ⟨_, (pss_cons (ps_for PassesOwn.never rfl (pi_range1 rfl B.range (pa_cons (pe_op op_add pe_int (pe_callB (call_min2 rfl) (by rfl) B.min (by decide +kernel) (pa_cons pe_int (pa_cons (pe_callB call_len_seq (by rfl) B.len PySem.boot_len (pa_cons (pv 0) pa_nil)) pa_nil)))) pa_nil)) (pg_name (i := 1) sc_law.nd rfl (.inl rfl)) (pss_cons (ps_set (i := 2) sc_law.nd rfl (.inl rfl) (pe_c c_L_hand hr (by omega) (by rfl) (pa_cons (pv 0) (pa_cons (pv 1) pa_nil)))) (pss_one (ps_for PassesOwn.never rfl (pi_tup (pe_tup (pa_cons pe_int (pa_cons pe_int pa_nil)))) (pg_name (i := 3) sc_law.nd rfl (.inl rfl)) (pss_cons (ps_for PassesOwn.never rfl (pi_tup (pe_tup (pa_cons pe_int (pa_cons pe_int (pa_cons pe_int pa_nil))))) (pg_name (i := 4) sc_law.nd rfl (.inl rfl)) (pss_one (ps_if (pt_not (pt_val (pe_g c_L_told_so hg hr (by omega) (by rfl) (pa_cons (pe_c c_L_sized hr (by omega) (by rfl) (pa_cons (pv 2) (pa_cons (pv 3) (pa_cons (pv 4) pa_nil)))) (pa_cons (pv 3) (pa_cons (pe_cmpR op_lt (pv 4) pe_int (nomark _)) pa_nil)))))) (pss_one (ps_ret pe_bl)) pss_nil))) (pss_cons (ps_for PassesOwn.never rfl (pi_tup (pe_tup (pa_cons pe_int (pa_cons pe_int (pa_cons pe_int pa_nil))))) (pg_name (i := 5) sc_law.nd rfl (.inl rfl)) (pss_cons (ps_set (i := 6) sc_law.nd rfl (.inl rfl) (pe_c c_L_sunk hr (by omega) (by rfl) (pa_cons (pv 2) (pa_cons (pv 3) (pa_cons (pe_c c_L_leaf hr (by omega) (by rfl) (pa_cons (pv 2) (pa_cons (pv 3) pa_nil))) (pa_cons (pe_op op_sub (pv 5) pe_int) pa_nil)))))) (pss_one (ps_if (pt_not (pt_val (pe_g c_L_told_so hg hr (by omega) (by rfl) (pa_cons (pv 6) (pa_cons (pv 3) (pa_cons (pe_cmpR op_lt (pv 5) pe_int (nomark _)) pa_nil)))))) (pss_one (ps_ret pe_bl)) pss_nil)))) (pss_one (ps_for PassesOwn.never rfl (pi_list (pe_c c_L_edges hr (by omega) (by rfl) (pa_cons (pv 3) pa_nil))) (pg_tup rfl (pgs_cons (pg_name (i := 7) sc_law.nd rfl (.inl rfl)) (pgs_cons (pg_name (i := 8) sc_law.nd rfl (.inl rfl)) pgs_nil))) (pss_cons (ps_set (i := 9) sc_law.nd rfl (.inl rfl) (pe_c c_L_sunk hr (by omega) (by rfl) (pa_cons (pv 2) (pa_cons (pv 3) (pa_cons (pv 7) (pa_cons (pe_c c_L_take hr (by omega) (by rfl) (pa_cons (pv 2) (pa_cons pe_int pa_nil))) pa_nil)))))) (pss_one (ps_if (PW.pt (pw_or (pt_not (pt_val (pe_g c_L_told_so hg hr (by omega) (by rfl) (pa_cons (pv 7) (pa_cons (pv 3) (pa_cons (pv 8) pa_nil)))))) (pw_or1 (pt_not (pt_val (pe_g c_L_told_so hg hr (by omega) (by rfl) (pa_cons (pv 9) (pa_cons (pv 3) (pa_cons (pv 8) pa_nil))))))))) (pss_one (ps_ret pe_bl)) pss_nil))))))))))) (pss_one (ps_ret pe_bl))), ?_⟩
    have two_le : 2 ≤ sizeLine := by decide
    have three_le : 3 ≤ sizeLine := by decide
    have hb : ∀ z : Int, (if z < 3 then z else 3) ≤ 3 := fun z => by split <;> omega
    have hb0 : ∀ z : Int, 0 ≤ z → 0 ≤ (if z < 3 then z else 3) := fun z hz => by split <;> omega
    have h3 := hb (((ns.map V.int).length : Nat) : Int)
    have h4 := hb0 (((ns.map V.int).length : Nat) : Int) (by omega)
    refine ⟨.ref sc, rfl, sc, _, rfl, .inl hS, _, _, rfl, _, _, rfl, rfl, _, rfl, by omega, by omega, ?_⟩
    refine for_range (fun i σ H' => ∃ y1 y2 y3 y4 y5 y6 y7 y8 y9, σ = [some (.ref sc), y1, y2, y3, y4, y5, y6, y7, y8, y9] ∧ Same H H') ⟨none, none, none, none, none, none, none, none, none, rfl, Same.refl _⟩ ?_ ?_
    · rintro i σ H1 hi ⟨y1, y2, y3, y4, y5, y6, y7, y8, y9, rfl, sm1⟩
      have hi4 : i < 4 := by omega
      refine ⟨.ref sc, rfl, .int (0 + (i : Int)), rfl, sc, _, ns, rfl, by omega, by omega, sm1.seq hS, fun a g sd np g0 sd0 => ?_⟩
      have hh1 : HandAt (upd H1 a (.lst [.int g, .int sd, .int 0])) a 0 := ⟨g, sd, 0, upd_same, g0, sd0, by decide, by decide⟩
      have b1 : But a H1 (upd H1 a (.lst [.int g, .int sd, .int 0])) := But.put
      generalize upd H1 a (.lst [.int g, .int sd, .int 0]) = H2 at hh1 b1
      refine ⟨two_le, fun tt nt => ?_⟩
      have htt : SqT K (upd H2 tt (.tup [.int 2, .int 3])) tt [.int 2, .int 3] := SqT.of upd_same
      have hh2 := hh1.new (o := .tup [.int 2, .int 3]) nt
      have b2 := b1.trans (But.new (o := .tup [.int 2, .int 3]) nt)
      generalize upd H2 tt (.tup [.int 2, .int 3]) = H3 at htt hh2 b2 ⊢
      refine ⟨tt, rfl, ⟨_, htt⟩, for_tup (xs := [.int 2, .int 3]) (fun j σ H' => ∃ y3 y4 y5 y6 y7 y8 y9, σ = [some (.ref sc), some (.int (0 + (i : Int))), some (.ref a), y3, y4, y5, y6, y7, y8, y9] ∧ But a H1 H' ∧ SqT K H' tt [.int 2, .int 3] ∧ HandAt H' a (30000 * j)) ⟨_, _, _, _, _, _, _, rfl, b2, htt, hh2⟩ (fun j σ H' _ h => by obtain ⟨_, _, _, _, _, _, _, _, _, z, _⟩ := h; exact z) ?_ ?_⟩
      · rintro j x σ H4 hx ⟨z3, z4, z5, z6, z7, z8, z9, rfl, b4, htt4, hh4⟩
        have hj : j < 2 := (List.getElem?_eq_some_iff.mp hx).1
        obtain ⟨many, rfl, hm2, hm3⟩ : ∃ many : Nat, x = .int (many : Int) ∧ 2 ≤ many ∧ many ≤ 3 := by
          have := List.mem_of_getElem? hx
          simp only [List.mem_cons, List.not_mem_nil, or_false] at this
          rcases this with rfl | rfl
          · exact ⟨2, rfl, by decide, by decide⟩
          · exact ⟨3, rfl, by decide, by decide⟩
        clear hx
        refine ⟨three_le, fun t5 n5 => ?_⟩
        have ht5 : SqT K (upd H4 t5 (.tup [.int 39, .int 40, .int 41])) t5 [.int 39, .int 40, .int 41] := SqT.of upd_same
        have hh5 := hh4.new (o := .tup [.int 39, .int 40, .int 41]) n5
        have b45 : But a H4 (upd H4 t5 (.tup [.int 39, .int 40, .int 41])) := But.new n5
        generalize upd H4 t5 (.tup [.int 39, .int 40, .int 41]) = H5 at ht5 hh5 b45 ⊢
        refine ⟨t5, rfl, ⟨_, ht5⟩, for_tup (xs := [.int 39, .int 40, .int 41]) (fun k σ H' => ∃ y4 y5 y6 y7 y8 y9, σ = [some (.ref sc), some (.int (0 + (i : Int))), some (.ref a), some (.int (many : Int)), y4, y5, y6, y7, y8, y9] ∧ But a H4 H' ∧ SqT K H' t5 [.int 39, .int 40, .int 41] ∧ HandAt H' a (30000 * j + 500 * k)) ⟨_, _, _, _, _, _, rfl, b45, ht5, hh5⟩ (fun k σ H' _ h => by obtain ⟨_, _, _, _, _, _, _, _, z, _⟩ := h; exact z) ?_ ?_⟩
        · rintro k x σ H6 hx ⟨z4, z5, z6, z7, z8, z9, rfl, b6, ht6, hh6⟩
          have hk : k < 3 := (List.getElem?_eq_some_iff.mp hx).1
          obtain ⟨s0, rfl, hs1, hs2⟩ : ∃ s0 : Nat, x = .int (s0 : Int) ∧ 39 ≤ s0 ∧ s0 ≤ 41 := by
            have := List.mem_of_getElem? hx
            simp only [List.mem_cons, List.not_mem_nil, or_false] at this
            rcases this with rfl | rfl | rfl
            · exact ⟨39, rfl, by decide, by decide⟩
            · exact ⟨40, rfl, by decide, by decide⟩
            · exact ⟨41, rfl, by decide, by decide⟩
          refine ⟨.ref a, rfl, .int (many : Int), rfl, .int (s0 : Int), rfl, a, many, s0, _, 7, rfl, by decide, by omega, (by show s0 ≤ 2 ^ 6 + 1; omega), by omega, by omega, hm3, hh6, by omega, fun H7 v e b7 hh7 he oe se de => ?_⟩
          refine ⟨.int (many : Int), rfl, .int (s0 : Int), rfl, _, _, rfl, rfl, v, many, toD e, _, rfl, he.dp, wdE_of oe, ?_, fun H8 sm8 => ⟨true, rfl, iteFF rfl ?_⟩⟩
          · show isEx many (toD e) = decide ((s0 : Int) < 41)
            rw [isEx_of oe, decide_eq_decide]
            omega
          · exact ⟨_, _, _, _, _, _, rfl, b6.trans (b7.trans (But.of sm8)), same_sqt sm8 (b7.sq hh6 ht6), (hh7.same sm8).le (by omega)⟩
        rintro σ H6 ⟨z4, z5, z6, z7, z8, z9, rfl, b6, ht6, hh6⟩
        have hh6 : HandAt H6 a (30000 * j + 1500) := hh6
        refine ⟨three_le, fun t7 n7 => ?_⟩
        have ht7 : SqT K (upd H6 t7 (.tup [.int 7, .int 8, .int 9])) t7 [.int 7, .int 8, .int 9] := SqT.of upd_same
        have hh7 := hh6.new (o := .tup [.int 7, .int 8, .int 9]) n7
        have b67 := b6.trans (But.new (o := .tup [.int 7, .int 8, .int 9]) n7)
        generalize upd H6 t7 (.tup [.int 7, .int 8, .int 9]) = H7 at ht7 hh7 b67 ⊢
        refine ⟨t7, rfl, ⟨_, ht7⟩, for_tup (xs := [.int 7, .int 8, .int 9]) (fun k σ H' => ∃ y4 y5 y6 y7 y8 y9, σ = [some (.ref sc), some (.int (0 + (i : Int))), some (.ref a), some (.int (many : Int)), y4, y5, y6, y7, y8, y9] ∧ But a H4 H' ∧ SqT K H' t7 [.int 7, .int 8, .int 9] ∧ HandAt H' a (30000 * j + 1500 + 200 * k)) ⟨_, _, _, _, _, _, rfl, b67, ht7, hh7⟩ (fun k σ H' _ h => by obtain ⟨_, _, _, _, _, _, _, _, z, _⟩ := h; exact z) ?_ ?_⟩
        · rintro k x σ H8 hx ⟨z4, z5, z6, z7, z8, z9, rfl, b8, ht8, hh8⟩
          have hk : k < 3 := (List.getElem?_eq_some_iff.mp hx).1
          obtain ⟨s0, rfl, hs1, hs2⟩ : ∃ s0 : Nat, x = .int (s0 : Int) ∧ 7 ≤ s0 ∧ s0 ≤ 9 := by
            have := List.mem_of_getElem? hx
            simp only [List.mem_cons, List.not_mem_nil, or_false] at this
            rcases this with rfl | rfl | rfl
            · exact ⟨7, rfl, by decide, by decide⟩
            · exact ⟨8, rfl, by decide, by decide⟩
            · exact ⟨9, rfl, by decide, by decide⟩
          refine ⟨.ref a, rfl, .int (many : Int), rfl, .ref a, rfl, .int (many : Int), rfl, a, many, _, rfl, by omega, by omega, hh8, by omega, fun H9 lv l b9 hh9 hl ol dl => ?_⟩
          refine ⟨.int (s0 : Int), rfl, _, _, rfl, rfl, a, many, s0 - 1, _, lv, toD l, ?_, by omega, by omega, hm3, hl.dp, tpo_ex l, hh9, by omega, fun H10 v d b10 hh10 hd hsn => ?_⟩
          · show [V.ref a, V.int (many : Int), lv, V.int ((s0 : Int) - 1)] ++ [] = _
            rw [show (s0 : Int) - 1 = ((s0 - 1 : Nat) : Int) by omega]
            rfl
          obtain ⟨e2, rfl, oe2, de2, se2⟩ := snks_good hm3 hsn ol
          obtain ⟨l1, l2⟩ := leaf_size dl
          refine ⟨v, rfl, .int (many : Int), rfl, .int (s0 : Int), rfl, _, _, rfl, rfl, v, many, toD e2, _, rfl, hd, wdE_of oe2, ?_, fun H11 sm11 => ⟨true, rfl, iteFF rfl ?_⟩⟩
          · show isEx many (toD e2) = decide ((s0 : Int) < 9)
            rw [isEx_of oe2, decide_eq_decide]
            omega
          · exact ⟨_, _, _, _, _, _, rfl, b8.trans ((b9.trans b10).trans (But.of sm11)), same_sqt sm11 (b10.sq hh9 (b9.sq hh8 ht8)), (hh10.same sm11).le (by omega)⟩
        rintro σ H8 ⟨z4, z5, z6, z7, z8, z9, rfl, b8, ht8, hh8⟩
        have hh8 : HandAt H8 a (30000 * j + 2100) := hh8
        refine ⟨.int (many : Int), rfl, many, rfl, hm2, hm3, fun H9 L us sm9 nL hL hus hul => ?_⟩
        have hh9 := hh8.same sm9
        have b9 := b8.trans (But.of sm9)
        have hLa : L ≠ a := hh8.ne nL
        refine ⟨L, rfl, ⟨_, SqL.of hL⟩, for_list (xs := us) (fun k σ H' => ∃ y7 y8 y9, σ = [some (.ref sc), some (.int (0 + (i : Int))), some (.ref a), some (.int (many : Int)), z4, z5, z6, y7, y8, y9] ∧ But a H9 H' ∧ HandAt H' a (30000 * j + 2100 + 200 * k)) ⟨_, _, _, rfl, But.of (Same.refl _), hh9⟩ (fun k σ H' _ h => by obtain ⟨_, _, _, _, bb, _⟩ := h; exact SqL.of (bb _ _ hLa hL)) ?_ ?_⟩
        · rintro k u σ H10 hu ⟨z7, z8, z9, rfl, b10, hh10⟩
          have hk : k < us.length := (List.getElem?_eq_some_iff.mp hu).1
          obtain ⟨pp, it, due, d, rfl, hq, hd, hok⟩ := (hus u (List.mem_of_getElem? hu)).imp fun _ _ q => b10.sq hh9 q
          refine ⟨pp, _, rfl, hq, rfl, _, _, rfl, _, _, rfl, rfl, ?_⟩
          refine ⟨.ref a, rfl, .int (many : Int), rfl, it, rfl, .ref a, rfl, a, 6, _, rfl, by decide, by decide, hh10, by omega, fun H11 r b11 hh11 r0 r1 => ?_⟩
          obtain ⟨r, rfl⟩ : ∃ r' : Nat, r = (r' : Int) := ⟨r.toNat, by omega⟩
          have hd11 := dp_but b11 hh10 hok.1 hd
          refine ⟨a, many, r, _, it, d, rfl, by omega, by omega, hm3, hd11, hok.1, hh11, by omega, fun H12 v d2 b12 hh12 hd2 hsn => ?_⟩
          have hd12 := dp_but b12 hh11 hok.1 hd11
          refine ⟨it, rfl, .int (many : Int), rfl, .bl due, rfl, it, many, d, due, rfl, hd12, hok.2.1 8, edge_ex hok, fun H13 sm13 => ⟨true, rfl, iteFF rfl ?_⟩⟩
          refine ⟨v, rfl, .int (many : Int), rfl, .bl due, rfl, v, many, d2, due, rfl, dp_same sm13 hd2, snks_wd hsn hok.2.1 8, edge_sunk hm3 (by omega) hok hsn, fun H14 sm14 => ⟨true, rfl, iteFF rfl ?_⟩⟩
          exact ⟨_, _, _, rfl, b10.trans ((b11.trans b12).trans (But.of (sm13.trans sm14))), ((hh12.same sm13).same sm14).le (by omega)⟩
        · rintro σ H10 ⟨z7, z8, z9, rfl, b10, hh10⟩
          exact ⟨_, _, _, _, _, _, _, rfl, b4.trans (b9.trans b10), b10.sq hh9 (same_sqt sm9 (b8.sq hh4 htt4)), hh10.le (by omega)⟩
      · rintro σ H4 ⟨z3, z4, z5, z6, z7, z8, z9, rfl, b4, _, _⟩
        exact ⟨_, _, _, _, _, _, _, _, _, rfl, sm1.trans (b4.same np)⟩
    · rintro σ H1 ⟨y1, y2, y3, y4, y5, y6, y7, y8, y9, rfl, sm1⟩
      exact q _
end
end NG

namespace NG
open PySem PySem.Spec PyProof.Rows L2
theorem all_mk {l : PySem.W.OpenLaw} {w : World} {K : PySem.W.Frag} {h : Heap} {mg : Str → Option Value} {fa f_is_number f_is_within f_fits f_first_word f_fits_shape f_has_shape f_parts f_count_parts f_is_expression f_L_hand f_L_take f_L_of f_L_figure f_L_leaf f_L_sized f_L_sunk f_L_edges f_L_told_so f_law : Addr} (X : K.In h) (G : h.Ns mainGlobals mg) (hfa : mg "law" = some (.ref fa))
    {od_is_number an_is_number od_is_within an_is_within od_fits an_fits od_first_word an_first_word od_fits_shape an_fits_shape od_has_shape an_has_shape od_parts an_parts od_count_parts an_count_parts od_is_expression an_is_expression od_L_hand an_L_hand od_L_take an_L_take od_L_of an_L_of od_L_figure an_L_figure od_L_leaf an_L_leaf od_L_sized an_L_sized od_L_sunk an_L_sunk od_L_edges an_L_edges od_L_told_so an_L_told_so od_law an_law : Option Addr} {sl_is_number sl_is_within sl_fits sl_first_word sl_fits_shape sl_has_shape sl_parts sl_count_parts sl_is_expression sl_L_hand sl_L_take sl_L_of sl_L_figure sl_L_leaf sl_L_sized sl_L_sunk sl_L_edges sl_L_told_so sl_law : Array (Option Value)} {oc_is_number kV_is_number dc_is_number pm_is_number cd_is_number ct_is_number oc_is_within kV_is_within dc_is_within pm_is_within cd_is_within ct_is_within oc_fits kV_fits dc_fits pm_fits cd_fits ct_fits oc_first_word kV_first_word dc_first_word pm_first_word cd_first_word ct_first_word oc_fits_shape kV_fits_shape dc_fits_shape pm_fits_shape cd_fits_shape ct_fits_shape oc_has_shape kV_has_shape dc_has_shape pm_has_shape cd_has_shape ct_has_shape oc_parts kV_parts dc_parts pm_parts cd_parts ct_parts oc_count_parts kV_count_parts dc_count_parts pm_count_parts cd_count_parts ct_count_parts oc_is_expression kV_is_expression dc_is_expression pm_is_expression cd_is_expression ct_is_expression oc_L_hand kV_L_hand dc_L_hand pm_L_hand cd_L_hand ct_L_hand oc_L_take kV_L_take dc_L_take pm_L_take cd_L_take ct_L_take oc_L_of kV_L_of dc_L_of pm_L_of cd_L_of ct_L_of oc_L_figure kV_L_figure dc_L_figure pm_L_figure cd_L_figure ct_L_figure oc_L_leaf kV_L_leaf dc_L_leaf pm_L_leaf cd_L_leaf ct_L_leaf oc_L_sized kV_L_sized dc_L_sized pm_L_sized cd_L_sized ct_L_sized oc_L_sunk kV_L_sunk dc_L_sunk pm_L_sunk cd_L_sunk ct_L_sunk oc_L_edges kV_L_edges dc_L_edges pm_L_edges cd_L_edges ct_L_edges oc_L_told_so kV_L_told_so dc_L_told_so pm_L_told_so cd_L_told_so ct_L_told_so oc_law kV_law dc_law pm_law cd_law ct_law : Value}
    (a_is_number : PySem.W.nsIn K mainGlobals "is_number" = some (some (.ref f_is_number))) (l_is_number : K.lookup f_is_number = some ⟨oc_is_number, od_is_number, .func (PySem.W.fnOf "is_number" "is_number" (defArgs s_is_number) (defBody s_is_number) (defScope s_is_number) .none kV_is_number dc_is_number pm_is_number an_is_number cd_is_number ct_is_number), sl_is_number⟩) (c_is_number : PySem.W.codeIn K cd_is_number "is_number" = true) (k_is_number : PySem.W.keepIn K (.ref f_is_number) = true)
    (a_is_within : PySem.W.nsIn K mainGlobals "is_within" = some (some (.ref f_is_within))) (l_is_within : K.lookup f_is_within = some ⟨oc_is_within, od_is_within, .func (PySem.W.fnOf "is_within" "is_within" (defArgs s_is_within) (defBody s_is_within) (defScope s_is_within) .none kV_is_within dc_is_within pm_is_within an_is_within cd_is_within ct_is_within), sl_is_within⟩) (c_is_within : PySem.W.codeIn K cd_is_within "is_within" = true) (k_is_within : PySem.W.keepIn K (.ref f_is_within) = true)
    (a_fits : PySem.W.nsIn K mainGlobals "fits" = some (some (.ref f_fits))) (l_fits : K.lookup f_fits = some ⟨oc_fits, od_fits, .func (PySem.W.fnOf "fits" "fits" (defArgs s_fits) (defBody s_fits) (defScope s_fits) .none kV_fits dc_fits pm_fits an_fits cd_fits ct_fits), sl_fits⟩) (c_fits : PySem.W.codeIn K cd_fits "fits" = true) (k_fits : PySem.W.keepIn K (.ref f_fits) = true)
    (a_first_word : PySem.W.nsIn K mainGlobals "first_word" = some (some (.ref f_first_word))) (l_first_word : K.lookup f_first_word = some ⟨oc_first_word, od_first_word, .func (PySem.W.fnOf "first_word" "first_word" (defArgs s_first_word) (defBody s_first_word) (defScope s_first_word) .none kV_first_word dc_first_word pm_first_word an_first_word cd_first_word ct_first_word), sl_first_word⟩) (c_first_word : PySem.W.codeIn K cd_first_word "first_word" = true) (k_first_word : PySem.W.keepIn K (.ref f_first_word) = true)
    (a_fits_shape : PySem.W.nsIn K mainGlobals "fits_shape" = some (some (.ref f_fits_shape))) (l_fits_shape : K.lookup f_fits_shape = some ⟨oc_fits_shape, od_fits_shape, .func (PySem.W.fnOf "fits_shape" "fits_shape" (defArgs s_fits_shape) (defBody s_fits_shape) (defScope s_fits_shape) .none kV_fits_shape dc_fits_shape pm_fits_shape an_fits_shape cd_fits_shape ct_fits_shape), sl_fits_shape⟩) (c_fits_shape : PySem.W.codeIn K cd_fits_shape "fits_shape" = true) (k_fits_shape : PySem.W.keepIn K (.ref f_fits_shape) = true)
    (a_has_shape : PySem.W.nsIn K mainGlobals "has_shape" = some (some (.ref f_has_shape))) (l_has_shape : K.lookup f_has_shape = some ⟨oc_has_shape, od_has_shape, .func (PySem.W.fnOf "has_shape" "has_shape" (defArgs s_has_shape) (defBody s_has_shape) (defScope s_has_shape) .none kV_has_shape dc_has_shape pm_has_shape an_has_shape cd_has_shape ct_has_shape), sl_has_shape⟩) (c_has_shape : PySem.W.codeIn K cd_has_shape "has_shape" = true) (k_has_shape : PySem.W.keepIn K (.ref f_has_shape) = true)
    (a_parts : PySem.W.nsIn K mainGlobals "parts" = some (some (.ref f_parts))) (l_parts : K.lookup f_parts = some ⟨oc_parts, od_parts, .func (PySem.W.fnOf "parts" "parts" (defArgs s_parts) (defBody s_parts) (defScope s_parts) .none kV_parts dc_parts pm_parts an_parts cd_parts ct_parts), sl_parts⟩) (c_parts : PySem.W.codeIn K cd_parts "parts" = true) (k_parts : PySem.W.keepIn K (.ref f_parts) = true)
    (a_count_parts : PySem.W.nsIn K mainGlobals "count_parts" = some (some (.ref f_count_parts))) (l_count_parts : K.lookup f_count_parts = some ⟨oc_count_parts, od_count_parts, .func (PySem.W.fnOf "count_parts" "count_parts" (defArgs s_count_parts) (defBody s_count_parts) (defScope s_count_parts) .none kV_count_parts dc_count_parts pm_count_parts an_count_parts cd_count_parts ct_count_parts), sl_count_parts⟩) (c_count_parts : PySem.W.codeIn K cd_count_parts "count_parts" = true) (k_count_parts : PySem.W.keepIn K (.ref f_count_parts) = true)
    (a_is_expression : PySem.W.nsIn K mainGlobals "is_expression" = some (some (.ref f_is_expression))) (l_is_expression : K.lookup f_is_expression = some ⟨oc_is_expression, od_is_expression, .func (PySem.W.fnOf "is_expression" "is_expression" (defArgs s_is_expression) (defBody s_is_expression) (defScope s_is_expression) .none kV_is_expression dc_is_expression pm_is_expression an_is_expression cd_is_expression ct_is_expression), sl_is_expression⟩) (c_is_expression : PySem.W.codeIn K cd_is_expression "is_expression" = true) (k_is_expression : PySem.W.keepIn K (.ref f_is_expression) = true)
    (a_L_hand : PySem.W.nsIn K mainGlobals "_law_hand" = some (some (.ref f_L_hand))) (l_L_hand : K.lookup f_L_hand = some ⟨oc_L_hand, od_L_hand, .func (PySem.W.fnOf "_law_hand" "_law_hand" (defArgs s_L_hand) (defBody s_L_hand) (defScope s_L_hand) .none kV_L_hand dc_L_hand pm_L_hand an_L_hand cd_L_hand ct_L_hand), sl_L_hand⟩) (c_L_hand : PySem.W.codeIn K cd_L_hand "_law_hand" = true) (k_L_hand : PySem.W.keepIn K (.ref f_L_hand) = true)
    (a_L_take : PySem.W.nsIn K mainGlobals "_law_take" = some (some (.ref f_L_take))) (l_L_take : K.lookup f_L_take = some ⟨oc_L_take, od_L_take, .func (PySem.W.fnOf "_law_take" "_law_take" (defArgs s_L_take) (defBody s_L_take) (defScope s_L_take) .none kV_L_take dc_L_take pm_L_take an_L_take cd_L_take ct_L_take), sl_L_take⟩) (c_L_take : PySem.W.codeIn K cd_L_take "_law_take" = true) (k_L_take : PySem.W.keepIn K (.ref f_L_take) = true)
    (a_L_of : PySem.W.nsIn K mainGlobals "_law_of" = some (some (.ref f_L_of))) (l_L_of : K.lookup f_L_of = some ⟨oc_L_of, od_L_of, .func (PySem.W.fnOf "_law_of" "_law_of" (defArgs s_L_of) (defBody s_L_of) (defScope s_L_of) .none kV_L_of dc_L_of pm_L_of an_L_of cd_L_of ct_L_of), sl_L_of⟩) (c_L_of : PySem.W.codeIn K cd_L_of "_law_of" = true) (k_L_of : PySem.W.keepIn K (.ref f_L_of) = true)
    (a_L_figure : PySem.W.nsIn K mainGlobals "_law_figure" = some (some (.ref f_L_figure))) (l_L_figure : K.lookup f_L_figure = some ⟨oc_L_figure, od_L_figure, .func (PySem.W.fnOf "_law_figure" "_law_figure" (defArgs s_L_figure) (defBody s_L_figure) (defScope s_L_figure) .none kV_L_figure dc_L_figure pm_L_figure an_L_figure cd_L_figure ct_L_figure), sl_L_figure⟩) (c_L_figure : PySem.W.codeIn K cd_L_figure "_law_figure" = true) (k_L_figure : PySem.W.keepIn K (.ref f_L_figure) = true)
    (a_L_leaf : PySem.W.nsIn K mainGlobals "_law_leaf" = some (some (.ref f_L_leaf))) (l_L_leaf : K.lookup f_L_leaf = some ⟨oc_L_leaf, od_L_leaf, .func (PySem.W.fnOf "_law_leaf" "_law_leaf" (defArgs s_L_leaf) (defBody s_L_leaf) (defScope s_L_leaf) .none kV_L_leaf dc_L_leaf pm_L_leaf an_L_leaf cd_L_leaf ct_L_leaf), sl_L_leaf⟩) (c_L_leaf : PySem.W.codeIn K cd_L_leaf "_law_leaf" = true) (k_L_leaf : PySem.W.keepIn K (.ref f_L_leaf) = true)
    (a_L_sized : PySem.W.nsIn K mainGlobals "_law_sized" = some (some (.ref f_L_sized))) (l_L_sized : K.lookup f_L_sized = some ⟨oc_L_sized, od_L_sized, .func (PySem.W.fnOf "_law_sized" "_law_sized" (defArgs s_L_sized) (defBody s_L_sized) (defScope s_L_sized) .none kV_L_sized dc_L_sized pm_L_sized an_L_sized cd_L_sized ct_L_sized), sl_L_sized⟩) (c_L_sized : PySem.W.codeIn K cd_L_sized "_law_sized" = true) (k_L_sized : PySem.W.keepIn K (.ref f_L_sized) = true)
    (a_L_sunk : PySem.W.nsIn K mainGlobals "_law_sunk" = some (some (.ref f_L_sunk))) (l_L_sunk : K.lookup f_L_sunk = some ⟨oc_L_sunk, od_L_sunk, .func (PySem.W.fnOf "_law_sunk" "_law_sunk" (defArgs s_L_sunk) (defBody s_L_sunk) (defScope s_L_sunk) .none kV_L_sunk dc_L_sunk pm_L_sunk an_L_sunk cd_L_sunk ct_L_sunk), sl_L_sunk⟩) (c_L_sunk : PySem.W.codeIn K cd_L_sunk "_law_sunk" = true) (k_L_sunk : PySem.W.keepIn K (.ref f_L_sunk) = true)
    (a_L_edges : PySem.W.nsIn K mainGlobals "_law_edges" = some (some (.ref f_L_edges))) (l_L_edges : K.lookup f_L_edges = some ⟨oc_L_edges, od_L_edges, .func (PySem.W.fnOf "_law_edges" "_law_edges" (defArgs s_L_edges) (defBody s_L_edges) (defScope s_L_edges) .none kV_L_edges dc_L_edges pm_L_edges an_L_edges cd_L_edges ct_L_edges), sl_L_edges⟩) (c_L_edges : PySem.W.codeIn K cd_L_edges "_law_edges" = true) (k_L_edges : PySem.W.keepIn K (.ref f_L_edges) = true)
    (a_L_told_so : PySem.W.nsIn K mainGlobals "_law_told_so" = some (some (.ref f_L_told_so))) (l_L_told_so : K.lookup f_L_told_so = some ⟨oc_L_told_so, od_L_told_so, .func (PySem.W.fnOf "_law_told_so" "_law_told_so" (defArgs s_L_told_so) (defBody s_L_told_so) (defScope s_L_told_so) .none kV_L_told_so dc_L_told_so pm_L_told_so an_L_told_so cd_L_told_so ct_L_told_so), sl_L_told_so⟩) (c_L_told_so : PySem.W.codeIn K cd_L_told_so "_law_told_so" = true) (k_L_told_so : PySem.W.keepIn K (.ref f_L_told_so) = true)
    (a_law : PySem.W.nsIn K mainGlobals "law" = some (some (.ref f_law))) (l_law : K.lookup f_law = some ⟨oc_law, od_law, .func (PySem.W.fnOf "law" "law" (defArgs s_law) (defBody s_law) (defScope s_law) .none kV_law dc_law pm_law an_law cd_law ct_law), sl_law⟩) (c_law : PySem.W.codeIn K cd_law "law" = true) (k_law : PySem.W.keepIn K (.ref f_law) = true)
    {d_S : Addr} {es_S : Array DictEntry} {n_S : Nat} (a_S : PySem.W.nsIn K mainGlobals "SHAPES" = some (some (.ref d_S))) (l_S : K.lookup d_S = some ⟨.type "dict", none, .dict es_S n_S, #[]⟩) (k_S : PySem.W.KeysLit w.params es_S.toList)
    (w_S : (d_S == sysModules) = false)
    {q_fig : Addr} {tod_fig : Option Addr} {its_fig : Array Value} {tm_fig : Nat} {tsl_fig : Array (Option Value)} (n_fig : PySem.W.nsIn K d_S "fig" = some (some (.ref q_fig))) (t_fig : K.lookup q_fig = some ⟨.type "tuple", tod_fig, .seq its_fig tm_fig, tsl_fig⟩) (v_fig : Vals [.str "figure"] its_fig.toList)
    {q_reg : Addr} {tod_reg : Option Addr} {its_reg : Array Value} {tm_reg : Nat} {tsl_reg : Array (Option Value)} (n_reg : PySem.W.nsIn K d_S "reg" = some (some (.ref q_reg))) (t_reg : K.lookup q_reg = some ⟨.type "tuple", tod_reg, .seq its_reg tm_reg, tsl_reg⟩) (v_reg : Vals [.str "place"] its_reg.toList)
    {q_share : Addr} {tod_share : Option Addr} {its_share : Array Value} {tm_share : Nat} {tsl_share : Array (Option Value)} (n_share : PySem.W.nsIn K d_S "share" = some (some (.ref q_share))) (t_share : K.lookup q_share = some ⟨.type "tuple", tod_share, .seq its_share tm_share, tsl_share⟩) (v_share : Vals [.str "sign"] its_share.toList)
    {q_sum : Addr} {tod_sum : Option Addr} {its_sum : Array Value} {tm_sum : Nat} {tsl_sum : Array (Option Value)} (n_sum : PySem.W.nsIn K d_S "sum" = some (some (.ref q_sum))) (t_sum : K.lookup q_sum = some ⟨.type "tuple", tod_sum, .seq its_sum tm_sum, tsl_sum⟩) (v_sum : Vals [.str "part", .str "part"] its_sum.toList)
    {q_less : Addr} {tod_less : Option Addr} {its_less : Array Value} {tm_less : Nat} {tsl_less : Array (Option Value)} (n_less : PySem.W.nsIn K d_S "less" = some (some (.ref q_less))) (t_less : K.lookup q_less = some ⟨.type "tuple", tod_less, .seq its_less tm_less, tsl_less⟩) (v_less : Vals [.str "part", .str "part"] its_less.toList)
    {q_times : Addr} {tod_times : Option Addr} {its_times : Array Value} {tm_times : Nat} {tsl_times : Array (Option Value)} (n_times : PySem.W.nsIn K d_S "times" = some (some (.ref q_times))) (t_times : K.lookup q_times = some ⟨.type "tuple", tod_times, .seq its_times tm_times, tsl_times⟩) (v_times : Vals [.str "factor", .str "part"] its_times.toList)
    {q_by : Addr} {tod_by : Option Addr} {its_by : Array Value} {tm_by : Nat} {tsl_by : Array (Option Value)} (n_by : PySem.W.nsIn K d_S "by" = some (some (.ref q_by))) (t_by : K.lookup q_by = some ⟨.type "tuple", tod_by, .seq its_by tm_by, tsl_by⟩) (v_by : Vals [.str "place", .str "part"] its_by.toList)
    {q_least : Addr} {tod_least : Option Addr} {its_least : Array Value} {tm_least : Nat} {tsl_least : Array (Option Value)} (n_least : PySem.W.nsIn K d_S "least" = some (some (.ref q_least))) (t_least : K.lookup q_least = some ⟨.type "tuple", tod_least, .seq its_least tm_least, tsl_least⟩) (v_least : Vals [.str "part", .str "part"] its_least.toList)
    {q_most : Addr} {tod_most : Option Addr} {its_most : Array Value} {tm_most : Nat} {tsl_most : Array (Option Value)} (n_most : PySem.W.nsIn K d_S "most" = some (some (.ref q_most))) (t_most : K.lookup q_most = some ⟨.type "tuple", tod_most, .seq its_most tm_most, tsl_most⟩) (v_most : Vals [.str "part", .str "part"] its_most.toList)
    {q_when : Addr} {tod_when : Option Addr} {its_when : Array Value} {tm_when : Nat} {tsl_when : Array (Option Value)} (n_when : PySem.W.nsIn K d_S "when" = some (some (.ref q_when))) (t_when : K.lookup q_when = some ⟨.type "tuple", tod_when, .seq its_when tm_when, tsl_when⟩) (v_when : Vals [.str "place", .str "figure", .str "part", .str "part"] its_when.toList)
    {q_where : Addr} {tod_where : Option Addr} {its_where : Array Value} {tm_where : Nat} {tsl_where : Array (Option Value)} (n_where : PySem.W.nsIn K d_S "where" = some (some (.ref q_where))) (t_where : K.lookup q_where = some ⟨.type "tuple", tod_where, .seq its_where tm_where, tsl_where⟩) (v_where : Vals [.str "sign", .str "line", .str "part", .str "part"] its_where.toList)
    {d_BOUNDS : Addr} {es_BOUNDS : Array DictEntry} {n_BOUNDS : Nat} (a_BOUNDS : PySem.W.nsIn K mainGlobals "BOUNDS" = some (some (.ref d_BOUNDS))) (l_BOUNDS : K.lookup d_BOUNDS = some ⟨.type "dict", none, .dict es_BOUNDS n_BOUNDS, #[]⟩) (k_BOUNDS : PySem.W.KeysLit w.params es_BOUNDS.toList) (w_BOUNDS : (d_BOUNDS == sysModules) = false)
    {q_BOUNDS_figure : Addr} {tod_BOUNDS_figure : Option Addr} {its_BOUNDS_figure : Array Value} {tm_BOUNDS_figure : Nat} {tsl_BOUNDS_figure : Array (Option Value)} (n_BOUNDS_figure : PySem.W.nsIn K d_BOUNDS "figure" = some (some (.ref q_BOUNDS_figure))) (t_BOUNDS_figure : K.lookup q_BOUNDS_figure = some ⟨.type "tuple", tod_BOUNDS_figure, .seq its_BOUNDS_figure tm_BOUNDS_figure, tsl_BOUNDS_figure⟩) (v_BOUNDS_figure : Vals [.int (-1000), .int (1000)] its_BOUNDS_figure.toList)
    {q_BOUNDS_place : Addr} {tod_BOUNDS_place : Option Addr} {its_BOUNDS_place : Array Value} {tm_BOUNDS_place : Nat} {tsl_BOUNDS_place : Array (Option Value)} (n_BOUNDS_place : PySem.W.nsIn K d_BOUNDS "place" = some (some (.ref q_BOUNDS_place))) (t_BOUNDS_place : K.lookup q_BOUNDS_place = some ⟨.type "tuple", tod_BOUNDS_place, .seq its_BOUNDS_place tm_BOUNDS_place, tsl_BOUNDS_place⟩) (v_BOUNDS_place : Vals [.int (0), .int (3)] its_BOUNDS_place.toList)
    {q_BOUNDS_factor : Addr} {tod_BOUNDS_factor : Option Addr} {its_BOUNDS_factor : Array Value} {tm_BOUNDS_factor : Nat} {tsl_BOUNDS_factor : Array (Option Value)} (n_BOUNDS_factor : PySem.W.nsIn K d_BOUNDS "factor" = some (some (.ref q_BOUNDS_factor))) (t_BOUNDS_factor : K.lookup q_BOUNDS_factor = some ⟨.type "tuple", tod_BOUNDS_factor, .seq its_BOUNDS_factor tm_BOUNDS_factor, tsl_BOUNDS_factor⟩) (v_BOUNDS_factor : Vals [.int (-9), .int (9)] its_BOUNDS_factor.toList)
    {q_BOUNDS_line : Addr} {tod_BOUNDS_line : Option Addr} {its_BOUNDS_line : Array Value} {tm_BOUNDS_line : Nat} {tsl_BOUNDS_line : Array (Option Value)} (n_BOUNDS_line : PySem.W.nsIn K d_BOUNDS "line" = some (some (.ref q_BOUNDS_line))) (t_BOUNDS_line : K.lookup q_BOUNDS_line = some ⟨.type "tuple", tod_BOUNDS_line, .seq its_BOUNDS_line tm_BOUNDS_line, tsl_BOUNDS_line⟩) (v_BOUNDS_line : Vals [.int (1), .int (1000)] its_BOUNDS_line.toList)
    {t_MOST_PARTS : Tok} (i_MOST_PARTS : PySem.W.nsIn K mainGlobals "MOST_PARTS" = some (some (.int (40) t_MOST_PARTS)))
    {t_MOST_DEEP : Tok} (i_MOST_DEEP : PySem.W.nsIn K mainGlobals "MOST_DEEP" = some (some (.int (8) t_MOST_DEEP)))
    (z_len : PySem.W.nsIn K mainGlobals "len" = some none)
    (z_sum : PySem.W.nsIn K mainGlobals "sum" = some none)
    (z_max : PySem.W.nsIn K mainGlobals "max" = some none)
    (z_min : PySem.W.nsIn K mainGlobals "min" = some none)
    (z_abs : PySem.W.nsIn K mainGlobals "abs" = some none)
    (z_int : PySem.W.nsIn K mainGlobals "int" = some none)
    (z_tuple : PySem.W.nsIn K mainGlobals "tuple" = some none)
    (z_range : PySem.W.nsIn K mainGlobals "range" = some none)
    (z_sorted : PySem.W.nsIn K mainGlobals "sorted" = some none)
    (z_zip : PySem.W.nsIn K mainGlobals "zip" = some none)
    (z_isinstance : PySem.W.nsIn K mainGlobals "isinstance" = some none)
    (z_list : PySem.W.nsIn K mainGlobals "list" = some none)
    (z_all : PySem.W.nsIn K mainGlobals "all" = some none)
    (z_repr : PySem.W.nsIn K mainGlobals "repr" = some none)
    (z_str : PySem.W.nsIn K mainGlobals "str" = some none)
    (z_enumerate : PySem.W.nsIn K mainGlobals "enumerate" = some none)
    (z_bool : PySem.W.nsIn K mainGlobals "bool" = some none)
    : ∃ fd : FuncData, (∀ (s : Shared) (v : Value), BindsTo s fd ⟨[v], []⟩ [("_law_script", v)]) ∧ ∀ base : Heap, K.In base → base.Ns mainGlobals mg → FnG l.prog w K mg base 18 fa fd ["_law_script"] (spLaw K) := by
  have e := hfa.symm.trans (PySem.W.mg_of X G a_law)
  cases e
  have F_is_number := fun_mk (st := s_is_number) l_is_number c_is_number k_is_number
  have g_is_number := PySem.W.mg_of X G a_is_number
  have b_is_number := F_is_number.binds (ps := ["thing"]) fun _ _ _ _ _ _ us hl => match us, hl with | [_], _ => rfl
  have F_is_within := fun_mk (st := s_is_within) l_is_within c_is_within k_is_within
  have g_is_within := PySem.W.mg_of X G a_is_within
  have b_is_within := F_is_within.binds (ps := ["thing", "low", "high"]) fun _ _ _ _ _ _ us hl => match us, hl with | [_, _, _], _ => rfl
  have F_fits := fun_mk (st := s_fits) l_fits c_fits k_fits
  have g_fits := PySem.W.mg_of X G a_fits
  have b_fits := F_fits.binds (ps := ["kind", "thing", "many"]) fun _ _ _ _ _ _ us hl => match us, hl with | [_, _, _], _ => rfl
  have F_first_word := fun_mk (st := s_first_word) l_first_word c_first_word k_first_word
  have g_first_word := PySem.W.mg_of X G a_first_word
  have b_first_word := F_first_word.binds (ps := ["thing"]) fun _ _ _ _ _ _ us hl => match us, hl with | [_], _ => rfl
  have F_fits_shape := fun_mk (st := s_fits_shape) l_fits_shape c_fits_shape k_fits_shape
  have g_fits_shape := PySem.W.mg_of X G a_fits_shape
  have b_fits_shape := F_fits_shape.binds (ps := ["thing", "shape", "many"]) fun _ _ _ _ _ _ us hl => match us, hl with | [_, _, _], _ => rfl
  have F_has_shape := fun_mk (st := s_has_shape) l_has_shape c_has_shape k_has_shape
  have g_has_shape := PySem.W.mg_of X G a_has_shape
  have b_has_shape := F_has_shape.binds (ps := ["thing", "many"]) fun _ _ _ _ _ _ us hl => match us, hl with | [_, _], _ => rfl
  have F_parts := fun_mk (st := s_parts) l_parts c_parts k_parts
  have g_parts := PySem.W.mg_of X G a_parts
  have b_parts := F_parts.binds (ps := ["expression"]) fun _ _ _ _ _ _ us hl => match us, hl with | [_], _ => rfl
  have F_count_parts := fun_mk (st := s_count_parts) l_count_parts c_count_parts k_count_parts
  have g_count_parts := PySem.W.mg_of X G a_count_parts
  have b_count_parts := F_count_parts.binds (ps := ["thing", "many", "deep"]) fun _ _ _ _ _ _ us hl => match us, hl with | [_, _, _], _ => rfl
  have F_is_expression := fun_mk (st := s_is_expression) l_is_expression c_is_expression k_is_expression
  have g_is_expression := PySem.W.mg_of X G a_is_expression
  have b_is_expression := F_is_expression.binds (ps := ["thing", "many"]) fun _ _ _ _ _ _ us hl => match us, hl with | [_, _], _ => rfl
  have F_L_hand := fun_mk (st := s_L_hand) l_L_hand c_L_hand k_L_hand
  have g_L_hand := PySem.W.mg_of X G a_L_hand
  have b_L_hand := F_L_hand.binds (ps := ["_law_script", "_law_k"]) fun _ _ _ _ _ _ us hl => match us, hl with | [_, _], _ => rfl
  have F_L_take := fun_mk (st := s_L_take) l_L_take c_L_take k_L_take
  have g_L_take := PySem.W.mg_of X G a_L_take
  have b_L_take := F_L_take.binds (ps := ["_law_hand_here", "_law_signs"]) fun _ _ _ _ _ _ us hl => match us, hl with | [_, _], _ => rfl
  have F_L_of := fun_mk (st := s_L_of) l_L_of c_L_of k_L_of
  have g_L_of := PySem.W.mg_of X G a_L_of
  have b_L_of := F_L_of.binds (ps := ["_law_hand_here", "_law_some"]) fun _ _ _ _ _ _ us hl => match us, hl with | [_, _], _ => rfl
  have F_L_figure := fun_mk (st := s_L_figure) l_L_figure c_L_figure k_L_figure
  have g_L_figure := PySem.W.mg_of X G a_L_figure
  have b_L_figure := F_L_figure.binds (ps := ["_law_hand_here"]) fun _ _ _ _ _ _ us hl => match us, hl with | [_], _ => rfl
  have F_L_leaf := fun_mk (st := s_L_leaf) l_L_leaf c_L_leaf k_L_leaf
  have g_L_leaf := PySem.W.mg_of X G a_L_leaf
  have b_L_leaf := F_L_leaf.binds (ps := ["_law_hand_here", "_law_signs"]) fun _ _ _ _ _ _ us hl => match us, hl with | [_, _], _ => rfl
  have F_L_sized := fun_mk (st := s_L_sized) l_L_sized c_L_sized k_L_sized
  have g_L_sized := PySem.W.mg_of X G a_L_sized
  have b_L_sized := F_L_sized.binds (ps := ["_law_hand_here", "_law_signs", "_law_size"]) fun _ _ _ _ _ _ us hl => match us, hl with | [_, _, _], _ => rfl
  have F_L_sunk := fun_mk (st := s_L_sunk) l_L_sunk c_L_sunk k_L_sunk
  have g_L_sunk := PySem.W.mg_of X G a_L_sunk
  have b_L_sunk := F_L_sunk.binds (ps := ["_law_hand_here", "_law_signs", "_law_inner", "_law_times"]) fun _ _ _ _ _ _ us hl => match us, hl with | [_, _, _, _], _ => rfl
  have F_L_edges := fun_mk (st := s_L_edges) l_L_edges c_L_edges k_L_edges
  have g_L_edges := PySem.W.mg_of X G a_L_edges
  have b_L_edges := F_L_edges.binds (ps := ["_law_signs"]) fun _ _ _ _ _ _ us hl => match us, hl with | [_], _ => rfl
  have F_L_told_so := fun_mk (st := s_L_told_so) l_L_told_so c_L_told_so k_L_told_so
  have g_L_told_so := PySem.W.mg_of X G a_L_told_so
  have b_L_told_so := F_L_told_so.binds (ps := ["_law_item", "_law_signs", "_law_due"]) fun _ _ _ _ _ _ us hl => match us, hl with | [_, _, _], _ => rfl
  have F_law := fun_mk (st := s_law) l_law c_law k_law
  have g_law := PySem.W.mg_of X G a_law
  have B : Bl mg := ⟨PySem.W.mg_none_of X G z_len, PySem.W.mg_none_of X G z_sum, PySem.W.mg_none_of X G z_max, PySem.W.mg_none_of X G z_min, PySem.W.mg_none_of X G z_abs, PySem.W.mg_none_of X G z_int, PySem.W.mg_none_of X G z_tuple, PySem.W.mg_none_of X G z_range, PySem.W.mg_none_of X G z_sorted, PySem.W.mg_none_of X G z_zip, PySem.W.mg_none_of X G z_isinstance, PySem.W.mg_none_of X G z_list, PySem.W.mg_none_of X G z_all, PySem.W.mg_none_of X G z_repr, PySem.W.mg_none_of X G z_str, PySem.W.mg_none_of X G z_enumerate⟩
  have n_bool := PySem.W.mg_none_of X G z_bool
  have mg_MOST_PARTS := PySem.W.mg_of X G i_MOST_PARTS
  have mg_MOST_DEEP := PySem.W.mg_of X G i_MOST_DEEP
  have mg_BOUNDS := PySem.W.mg_of X G a_BOUNDS
  have hN : TabN K w d_BOUNDS := by
    have mk : ∀ (x : Str) (q : Addr) (od : Option Addr) (its : Array Value) (m : Nat) (sl : Array (Option Value)) (lo hi : Int), PySem.W.nsIn K d_BOUNDS x = some (some (.ref q)) → K.lookup q = some ⟨.type "tuple", od, .seq its m, sl⟩ → Vals [.int lo, .int hi] its.toList → ∃ q, KDct K w d_BOUNDS x (.ref q) ∧ ∀ H, SqT K H q [.int lo, .int hi] := fun x q od its m sl lo hi h1 h2 h3 => ⟨q, ⟨es_BOUNDS, n_BOUNDS, _, l_BOUNDS, k_BOUNDS, h1, rfl⟩, fun H => .inr ⟨_, its, m, h2, rfl, rfl, by
      have h := h3.length
      have e2 : its.toList.length = its.size := Array.length_toList
      simp only [List.length_cons, List.length_nil] at h
      exact Nat.le_of_lt (small1000 (by omega)), h3⟩⟩
    intro k h1 h2
    cases k with
    | part => exact absurd rfl h1
    | sign => exact absurd rfl h2
    | figure => exact mk _ _ _ _ _ _ _ _ n_BOUNDS_figure t_BOUNDS_figure v_BOUNDS_figure
    | place => exact mk _ _ _ _ _ _ _ _ n_BOUNDS_place t_BOUNDS_place v_BOUNDS_place
    | factor => exact mk _ _ _ _ _ _ _ _ n_BOUNDS_factor t_BOUNDS_factor v_BOUNDS_factor
    | line => exact mk _ _ _ _ _ _ _ _ n_BOUNDS_line t_BOUNDS_line v_BOUNDS_line
  have mg_SHAPES := PySem.W.mg_of X G a_S
  have hSh : Shapes K w d_S := by
    have mk : ∀ (x : Str) (q : Addr) (od : Option Addr) (its : Array Value) (m : Nat) (sl : Array (Option Value)) (ks : List Str), ks.length ≤ 4 → PySem.W.nsIn K d_S x = some (some (.ref q)) → K.lookup q = some ⟨.type "tuple", od, .seq its m, sl⟩ → Vals (ks.map V.str) its.toList → ∃ q, KDct K w d_S x (.ref q) ∧ ∀ H, SqT K H q (ks.map V.str) := fun x q od its m sl ks hk h1 h2 h3 => ⟨q, ⟨es_S, n_S, _, l_S, k_S, h1, rfl⟩, fun H => .inr ⟨_, its, m, h2, rfl, rfl, by
      have h := h3.length
      have e2 : its.toList.length = its.size := Array.length_toList
      have e3 : (ks.map V.str).length = ks.length := List.length_map _
      exact Nat.le_of_lt (small1000 (by omega)), h3⟩⟩
    intro e
    cases e with
    | fig _ => exact mk _ _ _ _ _ _ ["figure"] (by decide) n_fig t_fig v_fig
    | reg _ => exact mk _ _ _ _ _ _ ["place"] (by decide) n_reg t_reg v_reg
    | share _ => exact mk _ _ _ _ _ _ ["sign"] (by decide) n_share t_share v_share
    | times _ _ => exact mk _ _ _ _ _ _ ["factor", "part"] (by decide) n_times t_times v_times
    | «by» _ _ => exact mk _ _ _ _ _ _ ["place", "part"] (by decide) n_by t_by v_by
    | when _ _ _ _ => exact mk _ _ _ _ _ _ ["place", "figure", "part", "part"] (by decide) n_when t_when v_when
    | whr _ _ _ _ => exact mk _ _ _ _ _ _ ["sign", "line", "part", "part"] (by decide) n_where t_where v_where
    | two o _ _ =>
      cases o with
      | sum => exact mk _ _ _ _ _ _ ["part", "part"] (by decide) n_sum t_sum v_sum
      | less => exact mk _ _ _ _ _ _ ["part", "part"] (by decide) n_less t_less v_less
      | least => exact mk _ _ _ _ _ _ ["part", "part"] (by decide) n_least t_least v_least
      | most => exact mk _ _ _ _ _ _ ["part", "part"] (by decide) n_most t_most v_most
  have hE : TabE K w d_S := TabE.of hSh w_S
  refine ⟨PySem.W.fnOf "law" "law" (defArgs s_law) (defBody s_law) (defScope s_law) .none kV_law dc_law pm_law an_law cd_law ct_law, fun s v => .of_eq rfl, fun base _ _ => ?_⟩
  have c_hand := ok_hand (P := l.prog) (w := w) (base := base) F_L_hand g_L_hand b_L_hand B
  have c_take := ok_take (P := l.prog) (w := w) (base := base) F_L_take g_L_take b_L_take
  have c_of := ok_of F_L_of g_L_of b_L_of B c_take
  have c_figure := ok_figure F_L_figure g_L_figure b_L_figure B c_take c_of
  have c_leaf := ok_leaf F_L_leaf g_L_leaf b_L_leaf B c_take c_figure
  have c_isnum := ok_isnum (P := l.prog) (w := w) (base := base) F_is_number g_is_number b_is_number B n_bool
  have c_within := ok_iswithin F_is_within g_is_within b_is_within c_isnum
  have c_fits := ok_fits F_fits g_fits b_fits mg_BOUNDS hN c_within
  have c_first := ok_firstword (P := l.prog) (w := w) (base := base) F_first_word g_first_word b_first_word B
  have c_fitssh := ok_fitsshape F_fits_shape g_fits_shape b_fits_shape B c_fits
  have c_hassh := ok_hasshape F_has_shape g_has_shape b_has_shape mg_SHAPES hE c_first c_fitssh
  have c_partsD := ok_partsD (P := l.prog) (w := w) (base := base) F_parts g_parts b_parts B mg_SHAPES hE
  have c_cntE := ok_cntE F_count_parts g_count_parts b_count_parts c_hassh c_partsD 9
  have f_isex' := fn_isex F_is_expression mg_MOST_DEEP mg_MOST_PARTS c_cntE
  have c_isex : Cal l.prog w K mg base 16 "is_expression" (spIsEx K) := ⟨_, _, _, f_isex', g_is_expression, F_is_expression.kp, b_is_expression⟩
  have k_isex : CalKO l.prog w K mg base 16 "is_expression" ["thing", "many"] (spIsEx K) := ⟨_, _, FnG.of f_isex', g_is_expression, F_is_expression.kp, fun s ws hl => match ws, hl with | [_, _], _ => .of_eq rfl⟩
  have c_sized := ok_sized F_L_sized g_L_sized b_L_sized B c_take c_of c_figure c_leaf 7
  have c_sunk := ok_sunk F_L_sunk g_L_sunk b_L_sunk B c_take c_of c_figure c_leaf
  have c_edges := ok_edges (P := l.prog) (w := w) (base := base) F_L_edges g_L_edges b_L_edges B
  have c_told := ok_told F_L_told_so g_L_told_so b_L_told_so B c_isex k_isex
  exact ok_law F_law B (lw := 17) (by decide) c_hand c_take c_leaf c_sized c_sunk c_edges c_told
end NG

open PySem PySem.W PyProof.Rows
set_option maxHeartbeats 0 in
theorem PySem.Challenge.cw_nonegrowsrich_k04_expressions_at_their_b_holds : PySem.Challenge.rw_nonegrowsrich_k04_expressions_at_their_b.Holds := by
  w_on; o_law; k_head; (case hw => w_witness2)
  k_fill
  refine NG.walkG (l := PySem.Challenge.rw_nonegrowsrich_k04_expressions_at_their_b) (n := 63) (k := 18) (x := "_law_script") (sp := fun w => NG.spLaw _) rfl (by decide) rfl ⟨rfl, by decide, by decide⟩ (fun w h Y => PySem.W.kIn_of Y) ?F (fun _ _ a ns hl _ hS => ⟨a, ns, rfl, hS, hl, fun _ => rfl⟩) 
  case F =>
    intro w mg fa h KX G hmg
    refine' NG.all_mk KX G hmg ?a_is_number ?l_is_number ?c_is_number ?k_is_number ?a_is_within ?l_is_within ?c_is_within ?k_is_within ?a_fits ?l_fits ?c_fits ?k_fits ?a_first_word ?l_first_word ?c_first_word ?k_first_word ?a_fits_shape ?l_fits_shape ?c_fits_shape ?k_fits_shape ?a_has_shape ?l_has_shape ?c_has_shape ?k_has_shape ?a_parts ?l_parts ?c_parts ?k_parts ?a_count_parts ?l_count_parts ?c_count_parts ?k_count_parts ?a_is_expression ?l_is_expression ?c_is_expression ?k_is_expression ?a_L_hand ?l_L_hand ?c_L_hand ?k_L_hand ?a_L_take ?l_L_take ?c_L_take ?k_L_take ?a_L_of ?l_L_of ?c_L_of ?k_L_of ?a_L_figure ?l_L_figure ?c_L_figure ?k_L_figure ?a_L_leaf ?l_L_leaf ?c_L_leaf ?k_L_leaf ?a_L_sized ?l_L_sized ?c_L_sized ?k_L_sized ?a_L_sunk ?l_L_sunk ?c_L_sunk ?k_L_sunk ?a_L_edges ?l_L_edges ?c_L_edges ?k_L_edges ?a_L_told_so ?l_L_told_so ?c_L_told_so ?k_L_told_so ?a_law ?l_law ?c_law ?k_law ?a_S ?l_S ?k_S ?w_S ?n_fig ?t_fig ?v_fig ?n_reg ?t_reg ?v_reg ?n_share ?t_share ?v_share ?n_sum ?t_sum ?v_sum ?n_less ?t_less ?v_less ?n_times ?t_times ?v_times ?n_by ?t_by ?v_by ?n_least ?t_least ?v_least ?n_most ?t_most ?v_most ?n_when ?t_when ?v_when ?n_where ?t_where ?v_where ?a_BOUNDS ?l_BOUNDS ?k_BOUNDS ?w_BOUNDS ?n_BOUNDS_figure ?t_BOUNDS_figure ?v_BOUNDS_figure ?n_BOUNDS_place ?t_BOUNDS_place ?v_BOUNDS_place ?n_BOUNDS_factor ?t_BOUNDS_factor ?v_BOUNDS_factor ?n_BOUNDS_line ?t_BOUNDS_line ?v_BOUNDS_line ?i_MOST_PARTS ?i_MOST_DEEP ?z_len ?z_sum ?z_max ?z_min ?z_abs ?z_int ?z_tuple ?z_range ?z_sorted ?z_zip ?z_isinstance ?z_list ?z_all ?z_repr ?z_str ?z_enumerate ?z_bool
    (case a_is_number => k_is); (case l_is_number => k_is); (case c_is_number => k_is); (case k_is_number => k_is); (case a_is_within => k_is); (case l_is_within => k_is); (case c_is_within => k_is); (case k_is_within => k_is); (case a_fits => k_is); (case l_fits => k_is); (case c_fits => k_is); (case k_fits => k_is); (case a_first_word => k_is); (case l_first_word => k_is); (case c_first_word => k_is); (case k_first_word => k_is); (case a_fits_shape => k_is); (case l_fits_shape => k_is); (case c_fits_shape => k_is); (case k_fits_shape => k_is); (case a_has_shape => k_is); (case l_has_shape => k_is); (case c_has_shape => k_is); (case k_has_shape => k_is); (case a_parts => k_is); (case l_parts => k_is); (case c_parts => k_is); (case k_parts => k_is); (case a_count_parts => k_is); (case l_count_parts => k_is); (case c_count_parts => k_is); (case k_count_parts => k_is); (case a_is_expression => k_is); (case l_is_expression => k_is); (case c_is_expression => k_is); (case k_is_expression => k_is); (case a_L_hand => k_is); (case l_L_hand => k_is); (case c_L_hand => k_is); (case k_L_hand => k_is); (case a_L_take => k_is); (case l_L_take => k_is); (case c_L_take => k_is); (case k_L_take => k_is); (case a_L_of => k_is); (case l_L_of => k_is); (case c_L_of => k_is); (case k_L_of => k_is); (case a_L_figure => k_is); (case l_L_figure => k_is); (case c_L_figure => k_is); (case k_L_figure => k_is); (case a_L_leaf => k_is); (case l_L_leaf => k_is); (case c_L_leaf => k_is); (case k_L_leaf => k_is); (case a_L_sized => k_is); (case l_L_sized => k_is); (case c_L_sized => k_is); (case k_L_sized => k_is); (case a_L_sunk => k_is); (case l_L_sunk => k_is); (case c_L_sunk => k_is); (case k_L_sunk => k_is); (case a_L_edges => k_is); (case l_L_edges => k_is); (case c_L_edges => k_is); (case k_L_edges => k_is); (case a_L_told_so => k_is); (case l_L_told_so => k_is); (case c_L_told_so => k_is); (case k_L_told_so => k_is); (case a_law => k_is); (case l_law => k_is); (case c_law => k_is); (case k_law => k_is); (case a_S => k_is); (case l_S => k_is); (case n_fig => k_is); (case t_fig => k_is); (case n_reg => k_is); (case t_reg => k_is); (case n_share => k_is); (case t_share => k_is); (case n_sum => k_is); (case t_sum => k_is); (case n_less => k_is); (case t_less => k_is); (case n_times => k_is); (case t_times => k_is); (case n_by => k_is); (case t_by => k_is); (case n_least => k_is); (case t_least => k_is); (case n_most => k_is); (case t_most => k_is); (case n_when => k_is); (case t_when => k_is); (case n_where => k_is); (case t_where => k_is); (case a_BOUNDS => k_is); (case l_BOUNDS => k_is); (case n_BOUNDS_figure => k_is); (case t_BOUNDS_figure => k_is); (case n_BOUNDS_place => k_is); (case t_BOUNDS_place => k_is); (case n_BOUNDS_factor => k_is); (case t_BOUNDS_factor => k_is); (case n_BOUNDS_line => k_is); (case t_BOUNDS_line => k_is); (case i_MOST_PARTS => k_is); (case i_MOST_DEEP => k_is); (case z_len => k_is); (case z_sum => k_is); (case z_max => k_is); (case z_min => k_is); (case z_abs => k_is); (case z_int => k_is); (case z_tuple => k_is); (case z_range => k_is); (case z_sorted => k_is); (case z_zip => k_is); (case z_isinstance => k_is); (case z_list => k_is); (case z_all => k_is); (case z_repr => k_is); (case z_str => k_is); (case z_enumerate => k_is); (case z_bool => k_is)
    (case k_S => repeat (first | exact trivial | refine ⟨⟨_, _, rfl, rfl⟩, ?_⟩))
    (case w_S => first | rfl | decide)
    (case v_fig => exact .cons ⟨_, rfl⟩ (.nil))
    (case v_reg => exact .cons ⟨_, rfl⟩ (.nil))
    (case v_share => exact .cons ⟨_, rfl⟩ (.nil))
    (case v_sum => exact .cons ⟨_, rfl⟩ (.cons ⟨_, rfl⟩ (.nil)))
    (case v_less => exact .cons ⟨_, rfl⟩ (.cons ⟨_, rfl⟩ (.nil)))
    (case v_times => exact .cons ⟨_, rfl⟩ (.cons ⟨_, rfl⟩ (.nil)))
    (case v_by => exact .cons ⟨_, rfl⟩ (.cons ⟨_, rfl⟩ (.nil)))
    (case v_least => exact .cons ⟨_, rfl⟩ (.cons ⟨_, rfl⟩ (.nil)))
    (case v_most => exact .cons ⟨_, rfl⟩ (.cons ⟨_, rfl⟩ (.nil)))
    (case v_when => exact .cons ⟨_, rfl⟩ (.cons ⟨_, rfl⟩ (.cons ⟨_, rfl⟩ (.cons ⟨_, rfl⟩ (.nil)))))
    (case v_where => exact .cons ⟨_, rfl⟩ (.cons ⟨_, rfl⟩ (.cons ⟨_, rfl⟩ (.cons ⟨_, rfl⟩ (.nil)))))
    (case k_BOUNDS => repeat (first | exact trivial | refine ⟨⟨_, _, rfl, rfl⟩, ?_⟩))
    (case w_BOUNDS => first | rfl | decide)
    (case v_BOUNDS_figure => exact .cons ⟨_, rfl⟩ (.cons ⟨_, rfl⟩ (.nil)))
    (case v_BOUNDS_place => exact .cons ⟨_, rfl⟩ (.cons ⟨_, rfl⟩ (.nil)))
    (case v_BOUNDS_factor => exact .cons ⟨_, rfl⟩ (.cons ⟨_, rfl⟩ (.nil)))
    (case v_BOUNDS_line => exact .cons ⟨_, rfl⟩ (.cons ⟨_, rfl⟩ (.nil)))

