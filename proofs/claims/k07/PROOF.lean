import PyProof.Rows.All
import Wide.All
import OpenK.AllK
import Wide.FinOn
import HandS.Base
import HandS.Call
import HandS.List
import HandS.Comp
import HandS.Ends
import HandS.Dict
import HandS.Iter
import HandS.Text
import HandS.Words
import HandS.WordsList
import HandS.WordsDict
import HandS.Conv
import HandS.Codes
import HandS.Wide
import HandS.Style
import KE.KTupSum
import HandS.Walk
import HandS.More
import HandS.Zip
import HandS.IsInst
import HandS.NoneIn
import PyProof.ReprRoads
import PyProof.ReprLen
import KE.KRevSl
import HandS.DeepEq
import PySem.Challenge.RW_nonegrowsrich_k07_whole_bends_along_a_wa
set_option Elab.async false
set_option linter.all false
set_option maxRecDepth 100000
set_option maxHeartbeats 4000000
namespace NG
open PySem PySem.Spec PyProof.Rows L2

/-! ### sum of a tuple -/
theorem cr_sumT {X : Cx} (hc : X.calm = true) : CallR X (.builtin "sum") (fun vs H Q => ∃ (a : Addr) (ns : List Int), vs = [V.ref a] ∧ SqT X.K H a (ns.map V.int) ∧ Q (.int ns.sum) H) := by
  intro pins s σ H vs us Q I r h
  obtain ⟨a, ns, rfl, hs, q⟩ := h
  obtain ⟨its, rv, hl, _⟩ := I.tuple hs
  rw [Vals.ref1 r]
  have hi := rv.ints
  obtain ⟨xs, e⟩ := hi.allInts.items
  have hn : numsOf (intItems xs).toList = ns := by rw [← e]; exact hi.numsOf
  rw [nums_intItems] at hn
  rw [e] at hl
  refine PySem.W.ktm_sumG (I.ok.hd hc) hl fun h' tk t' hk => ?_
  rw [preSum_eq, List.take_of_length_le (by simp), hn]
  exact ⟨.int _, H, I.kept hk, ⟨_, rfl⟩, q⟩

/-! ### rules whose reading names the written part, for a comprehension's block -/
theorem ixl {X : Cx} (K : PySem.W.Frag) (h : X.K = K := by rfl) : IxR X (rIxL K) := by
  subst h
  exact ix_list
theorem ixt {X : Cx} (K : PySem.W.Frag) (h : X.K = K := by rfl) : IxR X (rIxT K) := by
  subst h
  exact ix_tup
theorem lenK {X : Cx} (K : PySem.W.Frag) (h : X.K = K := by rfl) : CallR X (.builtin "len") (fun xs H Q => ∃ p ys, xs = [.ref p] ∧ (SqL K H p ys ∨ SqT K H p ys) ∧ Q (.int ys.length) H) := by
  subst h
  exact call_len_seq
theorem sumT {X : Cx} (K : PySem.W.Frag) (hc : X.calm = true) (h : X.K = K := by rfl) : CallR X (.builtin "sum") (fun vs H Q => ∃ (a : Addr) (ns : List Int), vs = [V.ref a] ∧ SqT K H a (ns.map V.int) ∧ Q (.int ns.sum) H) := by
  subst h
  exact cr_sumT hc
theorem sumL {X : Cx} (K : PySem.W.Frag) (hc : X.calm = true) (h : X.K = K := by rfl) : CallR X (.builtin "sum") (rSum K) := by
  subst h
  exact cr_sum hc

/-! ### short words -/
theorem iteFF {c : Bool} {A B : Prop} (hc : c = false) (h : B) : if c = true then A else B := by
  subst hc
  exact iteF h
theorem iteTT {c : Bool} {A B : Prop} (hc : c = true) (h : A) : if c = true then A else B := by
  subst hc
  exact iteT h
theorem iteD {p : Prop} [Decidable p] {A B : Prop} (h1 : p → A) (h2 : ¬ p → B) : if decide p = true then A else B := by
  by_cases h : p
  · rw [decide_eq_true h]
    exact iteT (h1 h)
  · rw [decide_eq_false h]
    exact iteF (h2 h)
theorem at_mem {xs : List V} {i : Int} (h0 : 0 ≤ i) (h1 : i < xs.length) : ∃ v, atI xs i = some v ∧ v ∈ xs := by
  have hj : i.toNat < xs.length := by omega
  refine ⟨xs[i.toNat], ?_, List.getElem_mem hj⟩
  exact at_of (j := i.toNat) (by omega) (List.getElem?_eq_getElem hj)
theorem at_int {ns : List Int} {i : Int} (h0 : 0 ≤ i) (h1 : i < ns.length) : atI (ns.map V.int) i = some (.int (ns.getD i.toNat 0)) := by
  have hj : i.toNat < ns.length := by omega
  refine at_of (j := i.toNat) (by omega) ?_
  rw [List.getElem?_map, List.getElem?_eq_getElem hj, List.getD_eq_getElem?_getD, List.getElem?_eq_getElem hj]
  rfl

/-- an expression, with a word behind it -/
def tCutE (t : TE) : TE := fun σ H Q => ∃ M : VK, t σ H M ∧ ∀ v H', M v H' → Q v H'
theorem pe_cut {X : Cx} {e : Expr} {t : TE} (h : PE X e t) : PE X e (tCutE t) :=
  ⟨fun pins s σ H Q I ⟨M, hm, hq⟩ => thn (h.run pins s σ H M I hm) fun u s1 ⟨x, H1, I1, r, q⟩ => ⟨x, H1, I1, r, hq _ _ q⟩⟩

/-! ### heaps: all but one object is as it was -/
def But (a : Addr) (H H' : Hp) : Prop := ∀ b o, b ≠ a → H b = some o → H' b = some o
theorem But.refl (a : Addr) (H : Hp) : But a H H := fun _ _ _ h => h
theorem But.trans {a : Addr} {H H1 H2 : Hp} (x : But a H H1) (y : But a H1 H2) : But a H H2 := fun b o n h => y b o n (x b o n h)
theorem But.of {a : Addr} {H H' : Hp} (x : Same H H') : But a H H' := fun b o _ h => x b o h
theorem But.new {a p : Addr} {H : Hp} {o : HO} (h : H p = none) : But a H (upd H p o) := fun b u _ e => by
  rw [upd_ne (ne_of_none e h)]
  exact e
theorem But.put {a : Addr} {H : Hp} {o : HO} : But a H (upd H a o) := fun b u n e => by
  rw [upd_ne n]
  exact e
theorem But.same {a : Addr} {H H' : Hp} (x : But a H H') (h : H a = none) : Same H H' := fun b o e => x b o (ne_of_none e h) e
theorem same_new {p : Addr} {H : Hp} {o : HO} (h : H p = none) : Same H (upd H p o) := fun b u e => by
  rw [upd_ne (ne_of_none e h)]
  exact e
theorem But.free {a b : Addr} {H H' : Hp} {o : HO} (x : But a H H') (h : H a = some o) (n : H' b = none) (n2 : H' a ≠ none) : H b = none := by
  cases q : H b with
  | none => rfl
  | some u =>
    by_cases e : b = a
    · subst e
      exact absurd n n2
    · rw [x b u e q] at n
      cases n
theorem But.sqt {a p : Addr} {H H' : Hp} {K : PySem.W.Frag} {l xs : List V} (x : But a H H') (h : H a = some (.lst l)) (q : SqT K H p xs) : SqT K H' p xs := by
  rcases q with (q | ⟨o, q⟩) | q
  · exact .inl (.inl (x _ _ (ne_of q h (by intro z; cases z)) q))
  · exact .inl (.inr ⟨o, x _ _ (ne_of q h (by intro z; cases z)) q⟩)
  · exact .inr q
theorem same_sqt {p : Addr} {H H' : Hp} {K : PySem.W.Frag} {xs : List V} (x : Same H H') (q : SqT K H p xs) : SqT K H' p xs := by
  rcases q with (q | ⟨o, q⟩) | q
  · exact .inl (.inl (x _ _ q))
  · exact .inl (.inr ⟨o, x _ _ q⟩)
  · exact .inr q

/-! ### the hand -/
def HandAt (H : Hp) (a : Addr) (n : Nat) : Prop := ∃ g s m : Int, H a = some (.lst [.int g, .int s, .int m]) ∧ 0 ≤ g ∧ 0 ≤ s ∧ 0 ≤ m ∧ m ≤ n
theorem HandAt.le {H : Hp} {a : Addr} {n k : Nat} (h : HandAt H a n) (l : n ≤ k) : HandAt H a k := by
  obtain ⟨g, s, m, e, h1, h2, h3, h4⟩ := h
  exact ⟨g, s, m, e, h1, h2, h3, by omega⟩
theorem HandAt.new {H : Hp} {a p : Addr} {n : Nat} {o : HO} (h : HandAt H a n) (hp : H p = none) : HandAt (upd H p o) a n := by
  obtain ⟨g, s, m, e, h1, h2, h3, h4⟩ := h
  exact ⟨g, s, m, by rw [upd_ne (ne_of_none e hp)]; exact e, h1, h2, h3, h4⟩
theorem HandAt.put {H : Hp} {a p : Addr} {n : Nat} {o : HO} (h : HandAt H a n) (hp : p ≠ a) : HandAt (upd H p o) a n := by
  obtain ⟨g, s, m, e, h1, h2, h3, h4⟩ := h
  exact ⟨g, s, m, by rw [upd_ne (Ne.symm hp)]; exact e, h1, h2, h3, h4⟩
theorem HandAt.ne {H : Hp} {a p : Addr} {n : Nat} (h : HandAt H a n) (hp : H p = none) : p ≠ a := by
  obtain ⟨g, s, m, e, _⟩ := h
  exact (ne_of_none e hp).symm
theorem HandAt.some {H : Hp} {a : Addr} {n : Nat} (h : HandAt H a n) : ∃ l, H a = some (.lst l) := by
  obtain ⟨g, s, m, e, _⟩ := h
  exact ⟨_, e⟩
theorem But.sq {a p : Addr} {H H' : Hp} {K : PySem.W.Frag} {n : Nat} {xs : List V} (x : But a H H') (h : HandAt H a n) (q : SqT K H p xs) : SqT K H' p xs := by
  obtain ⟨l, e⟩ := h.some
  exact x.sqt e q

structure Bl (mg : Str → Option Value) : Prop where
  len : mg "len" = none
  sum : mg "sum" = none
  max : mg "max" = none
  min : mg "min" = none
  abs : mg "abs" = none
  int : mg "int" = none
  tuple : mg "tuple" = none
  range : mg "range" = none
  sorted : mg "sorted" = none
  zip : mg "zip" = none
  isinstance : mg "isinstance" = none
  list : mg "list" = none
  all : mg "all" = none
  repr : mg "repr" = none
  str : mg "str" = none
  enumerate : mg "enumerate" = none

/-! ### a def that may be called by its name -/
structure Cal (P : Program) (w : World) (K : PySem.W.Frag) (mg : Str → Option Value) (base : Heap) (k : Nat) (x : Str) (sp : Sp) : Prop where
  ex : ∃ (f : Addr) (fd : FuncData) (ps : List Str), FnOk P w K mg base CX0 k f fd ps sp ∧ mg x = some (.ref f) ∧ PySem.W.keepIn K (.ref f) = true ∧ Binds K fd ps []
section
variable {X : Cx} {k j : Nat} {x : Str} {sp : Sp} {p pos : Pos} {e : Expr} {es : List Expr} {t : TA}
theorem pe_c (c : Cal X.prog X.w X.K X.mg X.base k x sp) (hr : Room j X.A) (hk : k ≤ j) (hg : Gl X x) (ha : PA X (e :: es) t)
    (hdb : (x == ("__debug__" : Str)) = false := by decide) (he : starEach (e :: es) X.env = (false, eval e X.env) :: starEach es X.env := by rfl) (hpl : (backTo pos (starEach es X.env)).any (·.1) = false := by rfl) :
    PE X (.Call (.Name x p) (e :: es) [] pos) (tCall sp [] E0 t) := by
  obtain ⟨f, fd, ps, F, hm, kp, b⟩ := c.ex
  exact pe_call F (hr.mono hk) hg hm kp b .nil pass0 ha hdb he hpl
end
theorem Cal.mono {P : Program} {w : World} {K : PySem.W.Frag} {mg : Str → Option Value} {base : Heap} {j k : Nat} {x : Str} {sp : Sp} (c : Cal P w K mg base j x sp) (h : j ≤ k) : Cal P w K mg base k x sp := by
  obtain ⟨f, fd, ps, F, r⟩ := c.ex
  exact ⟨f, fd, ps, F.mono h, r⟩

/-! ### promises of the draws -/
def spTake : Sp := fun vs H Q _ => ∃ (a : Addr) (many : Int) (n : Nat), vs = [.ref a, .int many] ∧ 0 < many ∧ many < 2 ^ 62 ∧ HandAt H a n ∧ n ≤ 1000000000 ∧
  ∀ H' r, But a H H' → HandAt H' a (n + 1) → 0 ≤ r → r < many → Q (.int r) H'
def spHand (K : PySem.W.Frag) : Sp := fun vs H Q _ => ∃ (a : Addr) (k : Int) (ns : List Int), vs = [.ref a, .int k] ∧ 0 ≤ k ∧ k < 1000 ∧ SqL K H a (ns.map V.int) ∧
  ∀ p g s, H p = none → 0 ≤ g → 0 ≤ s → Q (.ref p) (upd H p (.lst [.int g, .int s, .int 0]))
/-- an item of a list that is given -/
def spOf (K : PySem.W.Frag) : Sp := fun vs H Q _ => ∃ (a b : Addr) (xs : List V) (n : Nat), vs = [.ref a, .ref b] ∧ a ≠ b ∧ H b = some (.lst xs) ∧ 0 < xs.length ∧ xs.length ≤ 1000 ∧ HandAt H a n ∧ n ≤ 1000000000 ∧
  ∀ H' v, But a H H' → HandAt H' a (n + 1) → v ∈ xs → Q v H'
def spFigure : Sp := fun vs H Q _ => ∃ (a : Addr) (n : Nat), vs = [.ref a] ∧ HandAt H a n ∧ n ≤ 999999990 ∧
  ∀ H' c, But a H H' → HandAt H' a (n + 3) → -1000 ≤ c → c ≤ 1000 → Q (.int c) H'
end NG

namespace NG
open PySem PySem.Spec PyProof.Rows L2

/-! ### expressions -/
inductive W4 where
  | sum | less | least | most
  deriving DecidableEq
def wn : W4 → Str
  | .sum => "sum"
  | .less => "less"
  | .least => "least"
  | .most => "most"
inductive Ex where
  | fig (c : Int) | reg (i : Nat) | share (j : Nat)
  | two (w : W4) (a b : Ex)
  | times (f : Int) (a : Ex) | by (i : Nat) (a : Ex)
  | when (i : Nat) (c : Int) (a b : Ex) | whr (j : Nat) (c : Int) (a b : Ex)
def ExAt (K : PySem.W.Frag) (H : Hp) : Ex → V → Prop
  | .fig c, v => ∃ p, v = .ref p ∧ SqT K H p [.str "fig", .int c]
  | .reg i, v => ∃ p, v = .ref p ∧ SqT K H p [.str "reg", .int (i : Int)]
  | .share j, v => ∃ p, v = .ref p ∧ SqT K H p [.str "share", .int (j : Int)]
  | .two w a b, v => ∃ p x y, v = .ref p ∧ SqT K H p [.str (wn w), x, y] ∧ ExAt K H a x ∧ ExAt K H b y
  | .times f a, v => ∃ p x, v = .ref p ∧ SqT K H p [.str "times", .int f, x] ∧ ExAt K H a x
  | .by i a, v => ∃ p x, v = .ref p ∧ SqT K H p [.str "by", .int (i : Int), x] ∧ ExAt K H a x
  | .when i c a b, v => ∃ p x y, v = .ref p ∧ SqT K H p [.str "when", .int (i : Int), .int c, x, y] ∧ ExAt K H a x ∧ ExAt K H b y
  | .whr j c a b, v => ∃ p x y, v = .ref p ∧ SqT K H p [.str "where", .int (j : Int), .int c, x, y] ∧ ExAt K H a x ∧ ExAt K H b y
theorem ExAt.imp {K : PySem.W.Frag} {H H' : Hp} (h : ∀ p xs, SqT K H p xs → SqT K H' p xs) : ∀ {e : Ex} {v : V}, ExAt K H e v → ExAt K H' e v
  | .fig _, _, ⟨p, e, q⟩ => ⟨p, e, h _ _ q⟩
  | .reg _, _, ⟨p, e, q⟩ => ⟨p, e, h _ _ q⟩
  | .share _, _, ⟨p, e, q⟩ => ⟨p, e, h _ _ q⟩
  | .two _ _ _, _, ⟨p, x, y, e, q, a, b⟩ => ⟨p, x, y, e, h _ _ q, ExAt.imp h a, ExAt.imp h b⟩
  | .times _ _, _, ⟨p, x, e, q, a⟩ => ⟨p, x, e, h _ _ q, ExAt.imp h a⟩
  | .by _ _, _, ⟨p, x, e, q, a⟩ => ⟨p, x, e, h _ _ q, ExAt.imp h a⟩
  | .when _ _ _ _, _, ⟨p, x, y, e, q, a, b⟩ => ⟨p, x, y, e, h _ _ q, ExAt.imp h a, ExAt.imp h b⟩
  | .whr _ _ _ _, _, ⟨p, x, y, e, q, a, b⟩ => ⟨p, x, y, e, h _ _ q, ExAt.imp h a, ExAt.imp h b⟩
theorem ExAt.but {K : PySem.W.Frag} {H H' : Hp} {a : Addr} {n : Nat} {e : Ex} {v : V} (x : ExAt K H e v) (b : But a H H') (h : HandAt H a n) : ExAt K H' e v := x.imp fun _ _ q => b.sq h q
theorem ExAt.same {K : PySem.W.Frag} {H H' : Hp} {e : Ex} {v : V} (x : ExAt K H e v) (b : Same H H') : ExAt K H' e v := x.imp fun _ _ q => same_sqt b q
theorem ExAt.new {K : PySem.W.Frag} {H : Hp} {p : Addr} {o : HO} {e : Ex} {v : V} (x : ExAt K H e v) (n : H p = none) : ExAt K (upd H p o) e v := x.same (same_new n)
def ExOk (many : Nat) : Ex → Prop
  | .fig c => -1000 ≤ c ∧ c ≤ 1000
  | .reg i => i < 4
  | .share j => j < many
  | .two _ a b => ExOk many a ∧ ExOk many b
  | .times f a => (-9 ≤ f ∧ f ≤ 9) ∧ ExOk many a
  | .by i a => i < 4 ∧ ExOk many a
  | .when i c a b => i < 4 ∧ (-1000 ≤ c ∧ c ≤ 1000) ∧ ExOk many a ∧ ExOk many b
  | .whr j c a b => j < many ∧ (1 ≤ c ∧ c ≤ 1000) ∧ ExOk many a ∧ ExOk many b
def Ex.dep : Ex → Nat
  | .fig _ => 1
  | .reg _ => 1
  | .share _ => 1
  | .two _ a b => max a.dep b.dep + 1
  | .times _ a => a.dep + 1
  | .by _ a => a.dep + 1
  | .when _ _ a b => max a.dep b.dep + 1
  | .whr _ _ a b => max a.dep b.dep + 1
def jw : W4 → Int → Int → Int
  | .sum, x, y => x + y
  | .less, x, y => x - y
  | .least, x, y => if y < x then y else x
  | .most, x, y => if y > x then y else x
def wo (rs ss : List Int) : Ex → Int
  | .fig c => c * ss.sum
  | .reg i => rs.getD i 0 * ss.sum
  | .share j => 1000 * ss.getD j 0
  | .two w a b => jw w (wo rs ss a) (wo rs ss b)
  | .times f a => f * wo rs ss a
  | .by i a => rs.getD i 0 * wo rs ss a
  | .when i c a b => if rs.getD i 0 < c then wo rs ss a else wo rs ss b
  | .whr j c a b => if 1000 * ss.getD j 0 < c * ss.sum then wo rs ss a else wo rs ss b
theorem at_nth {ns : List Int} {i : Nat} (h : i < ns.length) : atI (ns.map V.int) (i : Int) = some (.int (ns.getD i 0)) := at_int (by omega) (by omega)

def RegsAt (K : PySem.W.Frag) (H : Hp) (rs : List Int) (v : V) : Prop := ∃ p, v = .ref p ∧ SqT K H p (rs.map V.int) ∧ rs.length = 4 ∧ ∀ x ∈ rs, -1000 ≤ x ∧ x ≤ 1000
def ShAt (K : PySem.W.Frag) (H : Hp) (many : Nat) (ss : List Int) (v : V) : Prop := ∃ p, v = .ref p ∧ SqT K H p (ss.map V.int) ∧ ss.length = many ∧ (∀ x ∈ ss, 0 ≤ x ∧ x < 2 ^ 50) ∧ 0 < ss.sum ∧ ss.sum < 2 ^ 60
theorem RegsAt.imp {K : PySem.W.Frag} {H H' : Hp} {rs : List Int} {v : V} (r : RegsAt K H rs v) (h : ∀ p xs, SqT K H p xs → SqT K H' p xs) : RegsAt K H' rs v := by
  obtain ⟨p, e, q, l⟩ := r
  exact ⟨p, e, h _ _ q, l⟩
theorem ShAt.imp {K : PySem.W.Frag} {H H' : Hp} {many : Nat} {rs : List Int} {v : V} (r : ShAt K H many rs v) (h : ∀ p xs, SqT K H p xs → SqT K H' p xs) : ShAt K H' many rs v := by
  obtain ⟨p, e, q, l⟩ := r
  exact ⟨p, e, h _ _ q, l⟩
theorem getD_mem {ns : List Int} {i : Nat} (h : i < ns.length) : ns.getD i 0 ∈ ns := by
  rw [List.getD_eq_getElem?_getD, List.getElem?_eq_getElem h]
  exact List.getElem_mem h

/-! ### promises -/
def spWorth (K : PySem.W.Frag) (n : Nat) : Sp := fun vs H Q _ => ∃ (v r s : V) (e : Ex) (many : Nat) (rs ss : List Int), vs = [v, r, s] ∧ ExAt K H e v ∧ ExOk many e ∧ e.dep ≤ n ∧ RegsAt K H rs r ∧ ShAt K H many ss s ∧ Q (.int (wo rs ss e)) H
def spJoinW : Sp := fun vs H Q _ => ∃ (w : W4) (x y : Int), vs = [.str (wn w), .int x, .int y] ∧ Q (.int (jw w x y)) H
def spLed (K : PySem.W.Frag) : Sp := fun vs H Q _ => ∃ (p : Addr) (r x y : V) (i : Nat) (c : Int) (rs : List Int), vs = [.ref p, r] ∧ SqT K H p [.str "when", .int (i : Int), .int c, x, y] ∧ i < 4 ∧ RegsAt K H rs r ∧ Q (if rs.getD i 0 < c then x else y) H
def spSide (K : PySem.W.Frag) : Sp := fun vs H Q _ => ∃ (p : Addr) (s x y : V) (many j : Nat) (c : Int) (ss : List Int), vs = [.ref p, s] ∧ SqT K H p [.str "where", .int (j : Int), .int c, x, y] ∧ j < many ∧ (1 ≤ c ∧ c ≤ 1000) ∧ ShAt K H many ss s ∧ Q (if 1000 * ss.getD j 0 < c * ss.sum then x else y) H
def spMills (K : PySem.W.Frag) : Sp := fun vs H Q _ => ∃ (s : V) (many j : Nat) (ss : List Int), vs = [s, .int (j : Int)] ∧ ShAt K H many ss s ∧ j < many ∧ Q (.int (1000 * ss.getD j 0 / ss.sum)) H
def cost : Nat → Nat
  | 0 => 6
  | n + 1 => 2 * cost n + 20
theorem cost_ge (l : Nat) : 6 ≤ cost l := by
  cases l with
  | zero => exact Nat.le_refl _
  | succ l =>
    unfold cost
    omega
def spLeaf (K : PySem.W.Frag) : Sp := fun vs H Q _ => ∃ (a : Addr) (many n : Nat), vs = [.ref a, .int (many : Int)] ∧ 1 ≤ many ∧ many ≤ 1000 ∧ HandAt H a n ∧ n ≤ 999999000 ∧
  ∀ H' v e, But a H H' → HandAt H' a (n + 5) → ExAt K H' e v → ExOk many e → e.dep ≤ 1 → Q v H'
def spExpr (K : PySem.W.Frag) (m : Nat) : Sp := fun vs H Q _ => ∃ (a : Addr) (many l n : Nat), vs = [.ref a, .int (many : Int), .int (l : Int), .int 1] ∧ l < m ∧ 1 ≤ many ∧ many ≤ 1000 ∧ HandAt H a n ∧ n + cost l ≤ 999999000 ∧
  ∀ H' v e, But a H H' → HandAt H' a (n + cost l) → ExAt K H' e v → ExOk many e → e.dep ≤ l + 1 → Q v H'
theorem cal_never {P : Program} {w : World} {K : PySem.W.Frag} {mg : Str → Option Value} {base : Heap} {k : Nat} {x qual : Str} {st : Stmt} {f : Addr} {fd : FuncData} {ps : List Str} {sp : Sp} (F : Fun K x qual st f fd) (gF : mg x = some (.ref f)) (b : Binds K fd ps []) (h : ∀ vs H Q E, ¬ sp vs H Q E) : Cal P w K mg base k x sp :=
  ⟨f, fd, ps, ⟨fun vs H Q E q => absurd q (h _ _ _ _), fun A outer s H args us vs Q E _ _ _ _ q => absurd q (h _ _ _ _)⟩, gF, F.kp, b⟩
theorem fn_never {P : Program} {w : World} {K : PySem.W.Frag} {mg : Str → Option Value} {base : Heap} {k : Nat} {f : Addr} {fd : FuncData} {ps : List Str} {sp : Sp} (h : ∀ vs H Q E, ¬ sp vs H Q E) : FnOk P w K mg base CX0 k f fd ps sp :=
  ⟨fun vs H Q E q => absurd q (h _ _ _ _), fun A outer s H args us vs Q E _ _ _ _ q => absurd q (h _ _ _ _)⟩
end NG

namespace NG
open PySem PySem.Spec PyProof.Rows L2

/-! ### the greatest that divides all -/
def gf (g : Nat) (x : Int) : Nat := Nat.gcd g x.toNat
def gl (ns : List Int) : Nat := ns.foldl gf 0
theorem gl_step {ns : List Int} {i : Nat} {x : Int} (h : ns[i]? = some x) : gl (ns.take (i + 1)) = Nat.gcd (gl (ns.take i)) x.toNat := by
  unfold gl
  rw [List.take_add_one, h, List.foldl_append]
  rfl
theorem gf_dvd : ∀ (ns : List Int) (g : Nat), ns.foldl gf g ∣ g ∧ ∀ x ∈ ns, ns.foldl gf g ∣ x.toNat
  | [], g => ⟨Nat.dvd_refl _, fun x h => by cases h⟩
  | y :: ns, g => by
    obtain ⟨h1, h2⟩ := gf_dvd ns (gf g y)
    refine ⟨Nat.dvd_trans h1 (Nat.gcd_dvd_left _ _), fun x hx => ?_⟩
    rcases List.mem_cons.mp hx with rfl | hx
    · exact Nat.dvd_trans h1 (Nat.gcd_dvd_right _ _)
    · exact h2 x hx
theorem gl_dvd {ns : List Int} {x : Int} (h : x ∈ ns) : gl ns ∣ x.toNat := (gf_dvd ns 0).2 x h
theorem gl_pos {ns : List Int} {x : Int} (h : x ∈ ns) (p : 0 < x) : 0 < gl ns := Nat.pos_of_dvd_of_pos (gl_dvd h) (by omega)
theorem sum_nonneg : ∀ {ms : List Int}, (∀ x ∈ ms, 0 ≤ x) → 0 ≤ ms.sum
  | [], _ => by simp
  | y :: ms, h => by
    have := sum_nonneg (ms := ms) fun x hx => h x (List.mem_cons_of_mem _ hx)
    have := h y List.mem_cons_self
    rw [List.sum_cons]
    omega
theorem sum_pos : ∀ {ms : List Int} {x : Int}, (∀ x ∈ ms, 0 ≤ x) → x ∈ ms → 0 < x → 0 < ms.sum
  | y :: ms, x, h, hx, p => by
    have h1 := sum_nonneg (ms := ms) fun x hx => h x (List.mem_cons_of_mem _ hx)
    have h2 := h y List.mem_cons_self
    rw [List.sum_cons]
    rcases List.mem_cons.mp hx with rfl | hx
    · omega
    · have := sum_pos (ms := ms) (fun x hx => h x (List.mem_cons_of_mem _ hx)) hx p
      omega
theorem sum_le {B : Int} : ∀ {ms : List Int}, (∀ x ∈ ms, x ≤ B) → ms.sum ≤ ms.length * B
  | [], _ => by simp
  | y :: ms, h => by
    have h1 := sum_le (ms := ms) fun x hx => h x (List.mem_cons_of_mem _ hx)
    have h2 := h y List.mem_cons_self
    rw [List.sum_cons, List.length_cons, Int.natCast_succ, Int.add_mul]
    omega
theorem div_le_self' {x : Int} {g : Nat} (h : 0 ≤ x) : x / (g : Int) ≤ x := Int.ediv_le_self _ h
/-- what lowest makes -/
def low (ns : List Int) : List Int := ns.map fun x => x / (gl ns : Int)
theorem low_sh {ns : List Int} (hb : ∀ x ∈ ns, 0 ≤ x ∧ x < 2 ^ 50) (hl : ns.length ≤ 1000) {y : Int} (hy : y ∈ ns) (py : 0 < y) :
    (∀ x ∈ low ns, 0 ≤ x ∧ x < 2 ^ 50) ∧ 0 < (low ns).sum ∧ (low ns).sum < 2 ^ 60 := by
  have hg := gl_pos hy py
  have h1 : ∀ x ∈ low ns, 0 ≤ x ∧ x < 2 ^ 50 := fun x hx => by
    obtain ⟨z, hz, rfl⟩ := List.mem_map.mp hx
    have h2 := hb z hz
    exact ⟨Int.ediv_nonneg h2.1 (by omega), Int.lt_of_le_of_lt (div_le_self' h2.1) h2.2⟩
  refine ⟨h1, ?_, ?_⟩
  · refine sum_pos (x := y / (gl ns : Int)) (fun x hx => (h1 x hx).1) (List.mem_map.mpr ⟨y, hy, rfl⟩) ?_
    have hd : (gl ns : Nat) ≤ y.toNat := Nat.le_of_dvd (by omega) (gl_dvd hy)
    exact Int.ediv_pos_of_pos_of_dvd py (by omega) (by
      have : ((gl ns : Nat) : Int) ∣ ((y.toNat : Nat) : Int) := Int.natCast_dvd_natCast.mpr (gl_dvd hy)
      rwa [Int.toNat_of_nonneg (by omega)] at this)
  · have h3 := sum_le (B := 2 ^ 50) (ms := low ns) fun x hx => Int.le_of_lt (h1 x hx).2
    have h4 : (low ns).length ≤ 1000 := by
      unfold low
      rw [List.length_map]
      exact hl
    have h5 : ((low ns).length : Int) * 2 ^ 50 ≤ 1000 * 2 ^ 50 := Int.mul_le_mul_of_nonneg_right (by omega) (by decide)
    have h6 : (1000 : Int) * 2 ^ 50 < 2 ^ 60 := by decide
    omega
theorem gcd_turn {u v : Nat} : Nat.gcd v (u % v) = Nat.gcd u v := by
  rw [Nat.gcd_comm v, ← Nat.gcd_rec, Nat.gcd_comm]
theorem ixN_of {n : Nat} {r : Int} (h0 : 0 ≤ r) (h1 : r < n) : ixN n r = some r.toNat := by
  unfold ixN
  rw [if_pos h0, if_pos h1]

theorem tYes_in {σ : L2.St} {H : Hp} {A B : Hp → Prop} (h : A H) : tYes σ H (fun b H3 => if b = true then A H3 else B H3) := by
  show if true = true then A H else B H
  exact iteT h

/-! ### promises -/
def spLow (K : PySem.W.Frag) : Sp := fun vs H Q _ => ∃ (p : Addr) (ns : List Int) (y : Int), vs = [.ref p] ∧ H p = some (.lst (ns.map V.int)) ∧ (∀ x ∈ ns, 0 ≤ x ∧ x < 2 ^ 50) ∧ ns.length ≤ 1000 ∧ y ∈ ns ∧ 0 < y ∧
  ∀ H' v ms, Same H H' → ShAt K H' ns.length ms v → Q v H'
def spShares (K : PySem.W.Frag) : Sp := fun vs H Q _ => ∃ (a : Addr) (many n : Nat), vs = [.ref a, .int (many : Int)] ∧ 1 ≤ many ∧ many ≤ 3 ∧ HandAt H a n ∧ n ≤ 999998000 ∧
  ∀ H' v ms, But a H H' → HandAt H' a (n + 20) → ShAt K H' many ms v → Q v H'
def spRegs (K : PySem.W.Frag) : Sp := fun vs H Q _ => ∃ (a : Addr) (n : Nat), vs = [.ref a] ∧ HandAt H a n ∧ n ≤ 999998000 ∧
  ∀ H' v rs, But a H H' → HandAt H' a (n + 12) → RegsAt K H' rs v → Q v H'
def spAsked (K : PySem.W.Frag) : Sp := fun vs H Q _ => ∃ (a : Addr) (many n : Nat), vs = [.ref a, .int (many : Int)] ∧ 2 ≤ many ∧ many ≤ 3 ∧ HandAt H a n ∧ n ≤ 999997000 ∧
  ∀ H' v ms, But a H H' → HandAt H' a (n + 25) → ShAt K H' many ms v → Q v H'
end NG

namespace NG
open PySem PySem.Spec PyProof.Rows L2
/-! ### rows of expressions -/
def RowsAt (K : PySem.W.Frag) (H : Hp) : List V → List Ex → Prop
  | [], [] => True
  | v :: vs, e :: es => ExAt K H e v ∧ RowsAt K H vs es
  | _, _ => False
theorem RowsAt.imp {K : PySem.W.Frag} {H H' : Hp} (h : ∀ p xs, SqT K H p xs → SqT K H' p xs) : ∀ {vs : List V} {es : List Ex}, RowsAt K H vs es → RowsAt K H' vs es
  | [], [], _ => trivial
  | _ :: _, _ :: _, ⟨x, r⟩ => ⟨x.imp h, RowsAt.imp h r⟩
theorem RowsAt.same {K : PySem.W.Frag} {H H' : Hp} {vs : List V} {es : List Ex} (r : RowsAt K H vs es) (s : Same H H') : RowsAt K H' vs es := r.imp fun _ _ q => same_sqt s q
theorem RowsAt.len {K : PySem.W.Frag} {H : Hp} : ∀ {vs : List V} {es : List Ex}, RowsAt K H vs es → vs.length = es.length
  | [], [], _ => rfl
  | _ :: _, _ :: _, ⟨_, r⟩ => by rw [List.length_cons, List.length_cons, r.len]
theorem RowsAt.snoc {K : PySem.W.Frag} {H : Hp} {v : V} {e : Ex} (x : ExAt K H e v) : ∀ {vs : List V} {es : List Ex}, RowsAt K H vs es → RowsAt K H (vs ++ [v]) (es ++ [e])
  | [], [], _ => ⟨x, trivial⟩
  | _ :: _, _ :: _, ⟨y, r⟩ => ⟨y, RowsAt.snoc x r⟩
theorem RowsAt.get {K : PySem.W.Frag} {H : Hp} : ∀ {vs : List V} {es : List Ex} {k : Nat} {e : Ex}, RowsAt K H vs es → es[k]? = some e → ∃ v, vs[k]? = some v ∧ ExAt K H e v
  | [], [], _, _, _, h => by simp at h
  | v :: vs, e' :: es, 0, e, ⟨x, r⟩, h => by
    have : e' = e := Option.some.inj h
    subst this
    exact ⟨v, rfl, x⟩
  | v :: vs, e' :: es, k + 1, e, ⟨x, r⟩, h => RowsAt.get (k := k) r h
def pairUp : List Ex → List Ex
  | a :: b :: r => .two .sum a b :: pairUp r
  | _ => []
theorem pairUp_get : ∀ {es : List Ex} {k : Nat} {a b : Ex}, es[2 * k]? = some a → es[2 * k + 1]? = some b → (pairUp es)[k]? = some (.two .sum a b)
  | [], k, _, _, h, _ => by simp at h
  | [_], k, _, _, _, h => by
    have := (List.getElem?_eq_some_iff.mp h).1
    rw [List.length_singleton] at this
    omega
  | x :: y :: r, 0, a, b, h, h2 => by
    have e1 : x = a := Option.some.inj h
    have e2 : y = b := Option.some.inj h2
    rw [← e1, ← e2]
    rfl
  | x :: y :: r, k + 1, a, b, h, h2 => by
    have h : r[2 * k]? = some a := h
    have h2 : r[2 * k + 1]? = some b := h2
    exact pairUp_get (es := r) (k := k) h h2
theorem pairUp_sum (rs ss : List Int) : ∀ {es : List Ex} {k : Nat}, es.length = 2 * k → ((pairUp es).map (wo rs ss)).sum = (es.map (wo rs ss)).sum ∧ (pairUp es).length = k
  | [], k, h => by
    rw [List.length_nil] at h
    exact ⟨rfl, by show 0 = k; omega⟩
  | [_], k, h => by
    rw [List.length_singleton] at h
    omega
  | x :: y :: r, k, h => by
    rw [List.length_cons, List.length_cons] at h
    obtain ⟨h1, h2⟩ := pairUp_sum rs ss (es := r) (k := k - 1) (by omega)
    refine ⟨?_, ?_⟩
    · show (wo rs ss (.two .sum x y) :: (pairUp r).map (wo rs ss)).sum = (wo rs ss x :: wo rs ss y :: r.map (wo rs ss)).sum
      rw [List.sum_cons, List.sum_cons, List.sum_cons, h1]
      show wo rs ss x + wo rs ss y + _ = _
      omega
    · show (pairUp r).length + 1 = k
      omega
theorem pairUp_ok {many d : Nat} : ∀ {es : List Ex}, (∀ e ∈ es, ExOk many e ∧ e.dep ≤ d) → ∀ e ∈ pairUp es, ExOk many e ∧ e.dep ≤ d + 1
  | [], _, e, h => by cases h
  | [_], _, e, h => by cases h
  | x :: y :: r, h, e, he => by
    have hx := h x List.mem_cons_self
    have hy := h y (List.mem_cons_of_mem _ List.mem_cons_self)
    rcases List.mem_cons.mp he with rfl | he
    · refine ⟨⟨hx.1, hy.1⟩, ?_⟩
      show max x.dep y.dep + 1 ≤ d + 1
      omega
    · exact pairUp_ok (es := r) (fun e he => h e (List.mem_cons_of_mem _ (List.mem_cons_of_mem _ he))) e he
def whn (j : Nat) (z : Int) : Ex := .whr j z (.fig 0) (.fig 1)
theorem count_sum (rs ss : List Int) (j : Nat) (h0 : 0 < ss.sum) : ∀ fs : List Int, ((fs.map (whn j)).map (wo rs ss)).sum = ((fs.filter fun z => decide (z ≤ 1000 * ss.getD j 0 / ss.sum)).length : Int) * ss.sum
  | [] => by simp
  | z :: fs => by
    have ih := count_sum rs ss j h0 fs
    have hm : 1000 * ss.getD j 0 / ss.sum < z ↔ 1000 * ss.getD j 0 < z * ss.sum := Int.ediv_lt_iff_lt_mul h0
    show (wo rs ss (whn j z) :: (fs.map (whn j)).map (wo rs ss)).sum = _
    rw [List.sum_cons, ih]
    show (if 1000 * ss.getD j 0 < z * ss.sum then 0 * ss.sum else 1 * ss.sum) + _ = _
    by_cases c : z ≤ 1000 * ss.getD j 0 / ss.sum
    · rw [List.filter_cons_of_pos (by rw [decide_eq_true c]), if_neg (fun q => by have := hm.mpr q; omega), List.length_cons, Int.natCast_succ, Int.add_mul]
      omega
    · rw [List.filter_cons_of_neg (by rw [decide_eq_false c]; exact Bool.false_ne_true), if_pos (hm.mp (by omega))]
      omega
def spCount (K : PySem.W.Frag) : Sp := fun vs H Q _ => ∃ (a : Addr) (many n : Nat) (s : V) (ss : List Int), vs = [.ref a, .int (many : Int), s] ∧ 2 ≤ many ∧ many ≤ 3 ∧ HandAt H a n ∧ n ≤ 999990000 ∧ ShAt K H many ss s ∧
  ∀ H', But a H H' → HandAt H' a (n + 10) → Q (.bl true) H'
end NG

namespace NG
open PySem PySem.Spec PyProof.Rows L2

/-! ### more rules -/
theorem pgtK {X : Cx} (K : PySem.W.Frag) {es : List Expr} {k : Nat} {t : TGs} {n : Nat} {pos : Pos} (hc : X.calm = true) (h : PGs X es t)
    (hn : (assignEach es X.env).length = n := by rfl) (hst : (assignEach es X.env).findIdx? (·.1) = none := by rfl) (hK : X.K = K := by rfl) : PG X (.Tuple es k pos) (gTup K n t) := by
  subst hK
  exact pg_tup hc h hn hst
theorem inK {X : Cx} (K : PySem.W.Frag) (h : X.K = K := by rfl) : OpR X (compareOp .In) (rIn K false) := by
  subst h
  exact op_in_seq
theorem isiK {X : Cx} (K : PySem.W.Frag) (h : X.K = K := by rfl) : CallR X (.builtin "isinstance") (rIsi K) := by
  subst h
  exact call_isi
theorem walk_zipT {K : PySem.W.Frag} {a b : Addr} {xs ys : List V} {n : Nat} (hx : xs.length = n) (hy : ys.length = n) : Walk (RZ.ItzT K a b) n (fun H => SqT K H a xs ∧ SqT K H b ys) (YPair (fun i => xs[i]?) (fun i => ys[i]?)) := by
  refine ⟨fun i H hi q => ?_, fun H q => ⟨xs, ys, q.1, q.2, .inl (by omega)⟩, fun i H v H' hi q y => ?_⟩
  · exact ⟨xs, ys, xs[i]'(by omega), ys[i]'(by omega), q.1, q.2, List.getElem?_eq_getElem _, List.getElem?_eq_getElem _⟩
  · obtain ⟨T, x, z, h1, h2, h3, h4, h5⟩ := y
    exact ⟨T, x, z, h1, h2, h3, h4 xs q.1, h5 ys q.2⟩
def tChain3 (r r' r'' : R2) (ta tb tc td : TE) : TT := fun σ H Q => ta σ H fun x H1 => tb σ H1 fun y H2 => r x y H2 fun z H3 => ∃ k, z = .bl k ∧
  (if k = true then tc σ H3 fun u H4 => r' y u H4 fun z' H5 => ∃ k', z' = .bl k' ∧ (if k' = true then td σ H5 fun v H6 => r'' u v H6 fun z'' H7 => ∃ k'', z'' = .bl k'' ∧ Q k'' H7 else Q false H5) else Q false H3)
theorem pt_chain3 {X : Cx} {a b c d : Expr} {ta tb tc td : TE} {pos : Pos} {o1 o2 o3 : CmpOp} {r1 r2 r3 : R2} (h1 : OpR X (compareOp o1) r1) (h2 : OpR X (compareOp o2) r2) (h3 : OpR X (compareOp o3) r3) (ha : PE X a ta) (hb : PE X b tb) (hc : PE X c tc) (hd : PE X d td)
    (hm : lastMarks [o1, o2, o3] [b, c, d] = false := by with_unfolding_all rfl) : PT X (.Compare a [o1, o2, o3] [b, c, d] pos) (tChain3 r1 r2 r3 ta tb tc td) := by
  refine ⟨fun pins s σ H Q I h => isTrue_chain (thn (ha.run pins s σ H _ I h) fun v1 s1 ⟨x, H1, I1, e1, q1⟩ => test_link (thn (hb.run pins s1 σ H1 _ I1 q1) fun v2 s2 ⟨y, H2, I2, e2, q2⟩ => thn (h1 pins s2 σ H2 x y v1 v2 _ I2 e1 e2 q2) fun v3 s3 ⟨z, H3, I3, e3, k, ek, q3⟩ => ?_)) hm⟩
  subst ek
  cases e3
  refine wpAny_truthy_bool ?_
  cases k with
  | false => exact ite_ff ⟨H3, I3, q3⟩
  | true =>
    refine ite_tt (test_link (thn (hc.run pins s3 σ H3 _ I3 q3) fun v4 s4 ⟨u, H4, I4, e4, q4⟩ => thn (h2 pins s4 σ H4 y u v2 v4 _ I4 e2 e4 q4) fun v5 s5 ⟨z', H5, I5, e5, k', ek', q5⟩ => ?_))
    subst ek'
    cases e5
    refine wpAny_truthy_bool ?_
    cases k' with
    | false => exact ite_ff ⟨H5, I5, q5⟩
    | true =>
      refine ite_tt (test_last (thn (hd.run pins s5 σ H5 _ I5 q5) fun v6 s6 ⟨v, H6, I6, e6, q6⟩ => thn (h3 pins s6 σ H6 u v v4 v6 _ I6 e4 e6 q6) fun v7 s7 ⟨z'', H7, I7, e7, k'', ek'', q7⟩ => ?_))
      subst ek''
      cases e7
      exact wpAny_truthy_bool ⟨H7, I7, q7⟩

/-! ### the shapes of words -/
def shapeOf : Ex → List Str
  | .fig _ => ["figure"]
  | .reg _ => ["place"]
  | .share _ => ["sign"]
  | .two _ _ _ => ["part", "part"]
  | .times _ _ => ["factor", "part"]
  | .by _ _ => ["place", "part"]
  | .when _ _ _ _ => ["place", "figure", "part", "part"]
  | .whr _ _ _ _ => ["sign", "line", "part", "part"]
def wordOf : Ex → Str
  | .fig _ => "fig"
  | .reg _ => "reg"
  | .share _ => "share"
  | .two w _ _ => wn w
  | .times _ _ => "times"
  | .by _ _ => "by"
  | .when _ _ _ _ => "when"
  | .whr _ _ _ _ => "where"
def Shapes (K : PySem.W.Frag) (w : World) (d : Addr) : Prop := ∀ e : Ex, ∃ q, KDct K w d (wordOf e) (.ref q) ∧ ∀ H, SqT K H q ((shapeOf e).map V.str)
def Ex.kids : Ex → List Ex
  | .fig _ => []
  | .reg _ => []
  | .share _ => []
  | .two _ a b => [a, b]
  | .times _ a => [a]
  | .by _ a => [a]
  | .when _ _ a b => [a, b]
  | .whr _ _ a b => [a, b]
/-- the items whose kind is a part -/
def pk : List Str → List V → List V
  | k :: ks, v :: vs => if V.str k = V.str "part" then v :: pk ks vs else pk ks vs
  | _, _ => []
theorem pk_snoc : ∀ {ks : List Str} {vs : List V} {i : Nat} {k : Str} {v : V}, ks[i]? = some k → vs[i]? = some v → pk (ks.take (i + 1)) (vs.take (i + 1)) = pk (ks.take i) (vs.take i) ++ (if V.str k = V.str "part" then [v] else [])
  | [], _, i, _, _, h, _ => by simp at h
  | _ :: _, [], i, _, _, _, h => by simp at h
  | k0 :: ks, v0 :: vs, 0, k, v, h, h2 => by
    have e1 : k0 = k := Option.some.inj h
    have e2 : v0 = v := Option.some.inj h2
    subst e1 e2
    show (if V.str k0 = V.str "part" then v0 :: pk (ks.take 0) (vs.take 0) else pk (ks.take 0) (vs.take 0)) = _
    split <;> rfl
  | k0 :: ks, v0 :: vs, i + 1, k, v, h, h2 => by
    have ih := pk_snoc (ks := ks) (vs := vs) (i := i) h h2
    show (if V.str k0 = V.str "part" then v0 :: pk (ks.take (i + 1)) (vs.take (i + 1)) else pk (ks.take (i + 1)) (vs.take (i + 1))) = (if V.str k0 = V.str "part" then v0 :: pk (ks.take i) (vs.take i) else pk (ks.take i) (vs.take i)) ++ _
    rw [ih]
    split <;> rfl
/-- how an expression lies: its word, then what belongs there -/
theorem ExAt.lies {K : PySem.W.Frag} {H : Hp} : ∀ {e : Ex} {v : V}, ExAt K H e v → ∃ (p : Addr) (xs : List V), v = .ref p ∧ SqT K H p (.str (wordOf e) :: xs) ∧ xs.length = (shapeOf e).length ∧ xs.length ≤ 4 ∧ 0 < xs.length ∧ RowsAt K H (pk (shapeOf e) xs) e.kids
  | .fig _, _, ⟨p, e, q⟩ => ⟨p, _, e, q, rfl, by simp, by simp, trivial⟩
  | .reg _, _, ⟨p, e, q⟩ => ⟨p, _, e, q, rfl, by simp, by simp, trivial⟩
  | .share _, _, ⟨p, e, q⟩ => ⟨p, _, e, q, rfl, by simp, by simp, trivial⟩
  | .two _ _ _, _, ⟨p, x, y, e, q, a, b⟩ => ⟨p, _, e, q, rfl, by simp, by simp, a, b, trivial⟩
  | .times _ _, _, ⟨p, x, e, q, a⟩ => ⟨p, _, e, q, rfl, by simp, by simp, a, trivial⟩
  | .by _ _, _, ⟨p, x, e, q, a⟩ => ⟨p, _, e, q, rfl, by simp, by simp, a, trivial⟩
  | .when _ _ _ _, _, ⟨p, x, y, e, q, a, b⟩ => ⟨p, _, e, q, rfl, by simp, by simp, a, b, trivial⟩
  | .whr _ _ _ _, _, ⟨p, x, y, e, q, a, b⟩ => ⟨p, _, e, q, rfl, by simp, by simp, a, b, trivial⟩
theorem pk_len : ∀ (ks : List Str) (vs : List V), (pk ks vs).length ≤ vs.length
  | [], vs => by
    unfold pk
    exact Nat.zero_le _
  | _ :: _, [] => Nat.le_refl _
  | k :: ks, v :: vs => by
    have := pk_len ks vs
    unfold pk
    split
    · rw [List.length_cons, List.length_cons]
      omega
    · rw [List.length_cons]
      omega

/-! ### spans -/
def mn (x y : Int) : Int := if y < x then y else x
def mx (x y : Int) : Int := if y > x then y else x
theorem mn_le (x y : Int) : mn x y ≤ x ∧ mn x y ≤ y := by unfold mn; split <;> omega
theorem le_mx (x y : Int) : x ≤ mx x y ∧ y ≤ mx x y := by unfold mx; split <;> omega
theorem mn_or (x y : Int) : mn x y = x ∨ mn x y = y := by unfold mn; split <;> simp
theorem mx_or (x y : Int) : mx x y = x ∨ mx x y = y := by unfold mx; split <;> simp
def ab (x : Int) : Int := if x < 0 then -x else x
def js : W4 → Int × Int → Int × Int → Int × Int
  | .sum, x, y => (x.1 + y.1, x.2 + y.2)
  | .less, x, y => (x.1 - y.2, x.2 - y.1)
  | .least, x, y => (mn x.1 y.1, mn x.2 y.2)
  | .most, x, y => (mx x.1 y.1, mx x.2 y.2)
def spn : Ex → Int × Int
  | .fig c => (c, c)
  | .reg _ => (-1000, 1000)
  | .share _ => (0, 1000)
  | .two w a b => js w (spn a) (spn b)
  | .times f a => (mn (f * (spn a).1) (f * (spn a).2), mx (f * (spn a).1) (f * (spn a).2))
  | .by _ a => (-1000 * mx (ab (spn a).1) (ab (spn a).2), 1000 * mx (ab (spn a).1) (ab (spn a).2))
  | .when _ _ a b => (mn (spn a).1 (spn b).1, mx (spn a).2 (spn b).2)
  | .whr _ _ a b => (mn (spn a).1 (spn b).1, mx (spn a).2 (spn b).2)
def SpAt (K : PySem.W.Frag) (H : Hp) (s : Int × Int) (v : V) : Prop := ∃ p, v = .ref p ∧ SqT K H p [.int s.1, .int s.2]
def SpsAt (K : PySem.W.Frag) (H : Hp) : List V → List (Int × Int) → Prop
  | [], [] => True
  | v :: vs, s :: ss => SpAt K H s v ∧ SpsAt K H vs ss
  | _, _ => False
theorem SpsAt.imp {K : PySem.W.Frag} {H H' : Hp} (h : ∀ p xs, SqT K H p xs → SqT K H' p xs) : ∀ {vs : List V} {ss : List (Int × Int)}, SpsAt K H vs ss → SpsAt K H' vs ss
  | [], [], _ => trivial
  | _ :: _, _ :: _, ⟨⟨p, e, q⟩, r⟩ => ⟨⟨p, e, h _ _ q⟩, SpsAt.imp h r⟩
theorem SpsAt.snoc {K : PySem.W.Frag} {H : Hp} {v : V} {s : Int × Int} (x : SpAt K H s v) : ∀ {vs : List V} {ss : List (Int × Int)}, SpsAt K H vs ss → SpsAt K H (vs ++ [v]) (ss ++ [s])
  | [], [], _ => ⟨x, trivial⟩
  | _ :: _, _ :: _, ⟨y, r⟩ => ⟨y, SpsAt.snoc x r⟩
theorem SpsAt.len {K : PySem.W.Frag} {H : Hp} : ∀ {vs : List V} {ss : List (Int × Int)}, SpsAt K H vs ss → vs.length = ss.length
  | [], [], _ => rfl
  | _ :: _, _ :: _, ⟨_, r⟩ => by rw [List.length_cons, List.length_cons, r.len]

theorem int_at {ns : List Int} {i : Nat} {v : V} (h : (ns.map V.int)[i]? = some v) : ∃ z : Int, v = .int z ∧ ns[i]? = some z := by
  rw [List.getElem?_map] at h
  cases e : ns[i]? with
  | none => rw [e] at h; cases h
  | some z => rw [e] at h; exact ⟨z, (Option.some.inj h).symm, rfl⟩
theorem SpsAt.one {K : PySem.W.Frag} {H : Hp} {us : List V} {s : Int × Int} (h : SpsAt K H us [s]) : ∃ p, us = [.ref p] ∧ SqT K H p [.int s.1, .int s.2] := by
  cases us with
  | nil => exact h.elim
  | cons u r =>
    cases r with
    | nil =>
      obtain ⟨⟨p, e, q⟩, _⟩ := h
      exact ⟨p, by rw [e], q⟩
    | cons _ _ => exact h.2.elim
theorem SpsAt.pair {K : PySem.W.Frag} {H : Hp} {us : List V} {s t : Int × Int} (h : SpsAt K H us [s, t]) : ∃ p q, us = [.ref p, .ref q] ∧ SqT K H p [.int s.1, .int s.2] ∧ SqT K H q [.int t.1, .int t.2] := by
  cases us with
  | nil => exact h.elim
  | cons u r =>
    obtain ⟨⟨p, e, q⟩, h2⟩ := h
    obtain ⟨p2, e2, q2⟩ := SpsAt.one h2
    exact ⟨p, p2, by rw [e, e2], q, q2⟩
theorem put_sqt {K : PySem.W.Frag} {H : Hp} {D p : Addr} {us us' xs : List V} (h : H D = some (.lst us)) (q : SqT K H p xs) : SqT K (upd H D (.lst us')) p xs := by
  rcases q with (q | ⟨o, q⟩) | q
  · exact .inl (.inl (by rw [upd_ne (ne_of q h (by intro z; cases z))]; exact q))
  · exact .inl (.inr ⟨o, by rw [upd_ne (ne_of q h (by intro z; cases z))]; exact q⟩)
  · exact .inr q
theorem RowsAt.get' {K : PySem.W.Frag} {H : Hp} : ∀ {vs : List V} {es : List Ex} {k : Nat} {v : V}, RowsAt K H vs es → vs[k]? = some v → ∃ e, es[k]? = some e ∧ ExAt K H e v
  | [], [], _, _, _, h => by simp at h
  | v' :: vs, e :: es, 0, v, ⟨x, r⟩, h => by
    have : v' = v := Option.some.inj h
    subst this
    exact ⟨e, rfl, x⟩
  | v' :: vs, e :: es, k + 1, v, ⟨x, r⟩, h => RowsAt.get' (k := k) r h
theorem mn_of {m a b : Int} (h : m ∈ [a, b]) (hl : ∀ y ∈ [a, b], m ≤ y) : m = mn a b := by
  have h1 := hl a (by simp)
  have h2 := hl b (by simp)
  simp only [List.mem_cons, List.not_mem_nil, or_false] at h
  unfold mn
  split <;> omega
theorem mx_of {m a b : Int} (h : m ∈ [a, b]) (hl : ∀ y ∈ [a, b], y ≤ m) : m = mx a b := by
  have h1 := hl a (by simp)
  have h2 := hl b (by simp)
  simp only [List.mem_cons, List.not_mem_nil, or_false] at h
  unfold mx
  split <;> omega

/-! ### promises -/
def spParts (K : PySem.W.Frag) : Sp := fun vs H Q _ => ∃ (v : V) (e : Ex), vs = [v] ∧ ExAt K H e v ∧ ∀ H' p xs, Same H H' → H p = none → H' p = some (.lst xs) → RowsAt K H' xs e.kids → Q (.ref p) H'
def spJoinS (K : PySem.W.Frag) : Sp := fun vs H Q _ => ∃ (e : Ex) (x y : V) (s t : Int × Int), vs = [.str (wordOf e), x, y] ∧ SpAt K H s x ∧ SpAt K H t y ∧
  ((∃ w a b, e = .two w a b ∧ ∀ H' v, Same H H' → SpAt K H' (js w s t) v → Q v H') ∨ ((∃ i c a b, e = .when i c a b) ∨ (∃ i c a b, e = .whr i c a b)) ∧ ∀ H' v, Same H H' → SpAt K H' (mn s.1 t.1, mx s.2 t.2) v → Q v H')
def spSpan (K : PySem.W.Frag) (n : Nat) : Sp := fun vs H Q _ => ∃ (v : V) (e : Ex) (many : Nat), vs = [v] ∧ ExAt K H e v ∧ ExOk many e ∧ e.dep ≤ n ∧ ∀ H' u, Same H H' → SpAt K H' (spn e) u → Q u H'
theorem kids_dep : ∀ (e : Ex) (k : Ex), k ∈ e.kids → k.dep + 1 ≤ e.dep
  | .fig _, k, h => by cases h
  | .reg _, k, h => by cases h
  | .share _, k, h => by cases h
  | .two w0 a b, k, h => by
    simp only [Ex.kids, List.mem_cons, List.not_mem_nil, or_false] at h
    have e : Ex.dep (.two w0 a b) = max a.dep b.dep + 1 := rfl
    rw [e]
    rcases h with rfl | rfl <;> omega
  | .times _ a, k, h => by
    simp only [Ex.kids, List.mem_cons, List.not_mem_nil, or_false] at h
    subst h
    exact Nat.le_refl _
  | .by _ a, k, h => by
    simp only [Ex.kids, List.mem_cons, List.not_mem_nil, or_false] at h
    subst h
    exact Nat.le_refl _
  | .when i0 c0 a b, k, h => by
    simp only [Ex.kids, List.mem_cons, List.not_mem_nil, or_false] at h
    have e : Ex.dep (.when i0 c0 a b) = max a.dep b.dep + 1 := rfl
    rw [e]
    rcases h with rfl | rfl <;> omega
  | .whr i0 c0 a b, k, h => by
    simp only [Ex.kids, List.mem_cons, List.not_mem_nil, or_false] at h
    have e : Ex.dep (.whr i0 c0 a b) = max a.dep b.dep + 1 := rfl
    rw [e]
    rcases h with rfl | rfl <;> omega
theorem kids_ok {many : Nat} : ∀ (e : Ex) (k : Ex), ExOk many e → k ∈ e.kids → ExOk many k
  | .fig _, k, _, h => by cases h
  | .reg _, k, _, h => by cases h
  | .share _, k, _, h => by cases h
  | .two _ a b, k, o, h => by
    simp only [Ex.kids, List.mem_cons, List.not_mem_nil, or_false] at h
    rcases h with rfl | rfl
    · exact o.1
    · exact o.2
  | .times _ a, k, o, h => by
    simp only [Ex.kids, List.mem_cons, List.not_mem_nil, or_false] at h
    subst h
    exact o.2
  | .by _ a, k, o, h => by
    simp only [Ex.kids, List.mem_cons, List.not_mem_nil, or_false] at h
    subst h
    exact o.2
  | .when _ _ a b, k, o, h => by
    simp only [Ex.kids, List.mem_cons, List.not_mem_nil, or_false] at h
    rcases h with rfl | rfl
    · exact o.2.2.1
    · exact o.2.2.2
  | .whr _ _ a b, k, o, h => by
    simp only [Ex.kids, List.mem_cons, List.not_mem_nil, or_false] at h
    rcases h with rfl | rfl
    · exact o.2.2.1
    · exact o.2.2.2
end NG

namespace NG
open PySem PySem.Spec PyProof.Rows L2
/-! ### what stands around an expression -/
inductive Cx1 where
  | l (w : W4) (x : Ex) | r (w : W4) (x : Ex) | times (f : Int) | by (i : Nat)
  | whenL (i : Nat) (c : Int) (x : Ex) | whenR (i : Nat) (c : Int) (x : Ex) | whrL (j : Nat) (c : Int) (x : Ex) | whrR (j : Nat) (c : Int) (x : Ex)
def Cx1.put : Cx1 → Ex → Ex
  | .l w x, e => .two w e x
  | .r w x, e => .two w x e
  | .times f, e => .times f e
  | .by i, e => .by i e
  | .whenL i c x, e => .when i c e x
  | .whenR i c x, e => .when i c x e
  | .whrL j c x, e => .whr j c e x
  | .whrR j c x, e => .whr j c x e
def Cx1.lay (u : V) : Cx1 → List V × List V
  | .l w _ => ([.str (wn w)], [u])
  | .r w _ => ([.str (wn w), u], [])
  | .times f => ([.str "times", .int f], [])
  | .by i => ([.str "by", .int (i : Int)], [])
  | .whenL i c _ => ([.str "when", .int (i : Int), .int c], [u])
  | .whenR i c _ => ([.str "when", .int (i : Int), .int c, u], [])
  | .whrL j c _ => ([.str "where", .int (j : Int), .int c], [u])
  | .whrR j c _ => ([.str "where", .int (j : Int), .int c, u], [])
def Cx1.leaf (K : PySem.W.Frag) (H : Hp) (u : V) : Cx1 → Prop
  | .l _ x => ExAt K H x u
  | .r _ x => ExAt K H x u
  | .times _ => True
  | .by _ => True
  | .whenL _ _ x => ExAt K H x u
  | .whenR _ _ x => ExAt K H x u
  | .whrL _ _ x => ExAt K H x u
  | .whrR _ _ x => ExAt K H x u
def Cx1.ok (many : Nat) : Cx1 → Prop
  | .l _ x => ExOk many x ∧ x.dep ≤ 1
  | .r _ x => ExOk many x ∧ x.dep ≤ 1
  | .times f => -9 ≤ f ∧ f ≤ 9
  | .by i => i < 4
  | .whenL i c x => i < 4 ∧ (-1000 ≤ c ∧ c ≤ 1000) ∧ ExOk many x ∧ x.dep ≤ 1
  | .whenR i c x => i < 4 ∧ (-1000 ≤ c ∧ c ≤ 1000) ∧ ExOk many x ∧ x.dep ≤ 1
  | .whrL j c x => j < many ∧ (1 ≤ c ∧ c ≤ 1000) ∧ ExOk many x ∧ x.dep ≤ 1
  | .whrR j c x => j < many ∧ (1 ≤ c ∧ c ≤ 1000) ∧ ExOk many x ∧ x.dep ≤ 1
def CtxAt (K : PySem.W.Frag) (H : Hp) (c : Cx1) (v : V) : Prop := ∃ (p pa pr : Addr) (u : V), v = .ref p ∧ SqT K H p [.ref pa, .ref pr] ∧ SqT K H pa (c.lay u).1 ∧ SqT K H pr (c.lay u).2 ∧ c.leaf K H u
theorem CtxAt.imp {K : PySem.W.Frag} {H H' : Hp} {c : Cx1} {v : V} (x : CtxAt K H c v) (h : ∀ p xs, SqT K H p xs → SqT K H' p xs) : CtxAt K H' c v := by
  obtain ⟨p, pa, pr, u, e, q1, q2, q3, lf⟩ := x
  refine ⟨p, pa, pr, u, e, h _ _ q1, h _ _ q2, h _ _ q3, ?_⟩
  cases c with
  | l w x => exact ExAt.imp h lf
  | r w x => exact ExAt.imp h lf
  | times f => trivial
  | «by» i => trivial
  | whenL i c x => exact ExAt.imp h lf
  | whenR i c x => exact ExAt.imp h lf
  | whrL i c x => exact ExAt.imp h lf
  | whrR i c x => exact ExAt.imp h lf
def CtxsAt (K : PySem.W.Frag) (H : Hp) : List V → List Cx1 → Prop
  | [], [] => True
  | v :: vs, c :: cs => CtxAt K H c v ∧ CtxsAt K H vs cs
  | _, _ => False
theorem CtxsAt.imp {K : PySem.W.Frag} {H H' : Hp} (h : ∀ p xs, SqT K H p xs → SqT K H' p xs) : ∀ {vs : List V} {cs : List Cx1}, CtxsAt K H vs cs → CtxsAt K H' vs cs
  | [], [], _ => trivial
  | _ :: _, _ :: _, ⟨x, r⟩ => ⟨x.imp h, CtxsAt.imp h r⟩
theorem CtxsAt.len {K : PySem.W.Frag} {H : Hp} : ∀ {vs : List V} {cs : List Cx1}, CtxsAt K H vs cs → vs.length = cs.length
  | [], [], _ => rfl
  | _ :: _, _ :: _, ⟨_, r⟩ => by rw [List.length_cons, List.length_cons, r.len]
theorem CtxsAt.snoc {K : PySem.W.Frag} {H : Hp} {v : V} {c : Cx1} (x : CtxAt K H c v) : ∀ {vs : List V} {cs : List Cx1}, CtxsAt K H vs cs → CtxsAt K H (vs ++ [v]) (cs ++ [c])
  | [], [], _ => ⟨x, trivial⟩
  | _ :: _, _ :: _, ⟨y, r⟩ => ⟨y, CtxsAt.snoc x r⟩
theorem CtxsAt.get' {K : PySem.W.Frag} {H : Hp} : ∀ {vs : List V} {cs : List Cx1} {k : Nat} {v : V}, CtxsAt K H vs cs → vs[k]? = some v → ∃ c, cs[k]? = some c ∧ CtxAt K H c v
  | [], [], _, _, _, h => by simp at h
  | v' :: vs, e :: es, 0, v, ⟨x, r⟩, h => by
    have : v' = v := Option.some.inj h
    subst this
    exact ⟨e, rfl, x⟩
  | v' :: vs, e :: es, k + 1, v, ⟨x, r⟩, h => CtxsAt.get' (k := k) r h
theorem put_at {K : PySem.W.Frag} {H : Hp} {c : Cx1} {u v : V} {e : Ex} {p : Addr} (hp : SqT K H p ((c.lay u).1 ++ [v] ++ (c.lay u).2)) (lf : c.leaf K H u) (he : ExAt K H e v) : ExAt K H (c.put e) (.ref p) := by
  cases c with
  | l w x => exact ⟨p, v, u, rfl, hp, he, lf⟩
  | r w x => exact ⟨p, u, v, rfl, hp, lf, he⟩
  | times f => exact ⟨p, v, rfl, hp, he⟩
  | «by» i => exact ⟨p, v, rfl, hp, he⟩
  | whenL i c x => exact ⟨p, v, u, rfl, hp, he, lf⟩
  | whenR i c x => exact ⟨p, u, v, rfl, hp, lf, he⟩
  | whrL i c x => exact ⟨p, v, u, rfl, hp, he, lf⟩
  | whrR i c x => exact ⟨p, u, v, rfl, hp, lf, he⟩
theorem put_ok {many : Nat} {c : Cx1} {e : Ex} (o : c.ok many) (oe : ExOk many e) : ExOk many (c.put e) := by
  cases c with
  | l w x => exact ⟨oe, o.1⟩
  | r w x => exact ⟨o.1, oe⟩
  | times f => exact ⟨o, oe⟩
  | «by» i => exact ⟨o, oe⟩
  | whenL i c x => exact ⟨o.1, o.2.1, oe, o.2.2.1⟩
  | whenR i c x => exact ⟨o.1, o.2.1, o.2.2.1, oe⟩
  | whrL i c x => exact ⟨o.1, o.2.1, oe, o.2.2.1⟩
  | whrR i c x => exact ⟨o.1, o.2.1, o.2.2.1, oe⟩
theorem dep_pos (e : Ex) : 1 ≤ e.dep := by cases e <;> (unfold Ex.dep; omega)
theorem put_dep {many : Nat} {c : Cx1} {e : Ex} (o : c.ok many) : (c.put e).dep ≤ e.dep + 1 := by
  have he := dep_pos e
  cases c with
  | l w x => show max e.dep x.dep + 1 ≤ _; have := o.2; omega
  | r w x => show max x.dep e.dep + 1 ≤ _; have := o.2; omega
  | times f => exact Nat.le_refl _
  | «by» i => exact Nat.le_refl _
  | whenL i c x => show max e.dep x.dep + 1 ≤ _; have := o.2.2.2; omega
  | whenR i c x => show max x.dep e.dep + 1 ≤ _; have := o.2.2.2; omega
  | whrL i c x => show max e.dep x.dep + 1 ≤ _; have := o.2.2.2; omega
  | whrR i c x => show max x.dep e.dep + 1 ≤ _; have := o.2.2.2; omega
def putAll (cs : List Cx1) (e : Ex) : Ex := cs.foldl (fun e c => c.put e) e
theorem putAll_ok {many : Nat} : ∀ {cs : List Cx1} {e : Ex}, (∀ c ∈ cs, c.ok many) → ExOk many e → ExOk many (putAll cs e)
  | [], _, _, h => h
  | c :: cs, e, o, h => putAll_ok (cs := cs) (e := c.put e) (fun c' h' => o c' (List.mem_cons_of_mem _ h')) (put_ok (o c List.mem_cons_self) h)
theorem putAll_dep {many : Nat} : ∀ {cs : List Cx1} {e : Ex}, (∀ c ∈ cs, c.ok many) → (putAll cs e).dep ≤ e.dep + cs.length
  | [], _, _ => Nat.le_refl _
  | c :: cs, e, o => by
    have h1 := putAll_dep (cs := cs) (e := c.put e) (fun c' h' => o c' (List.mem_cons_of_mem _ h'))
    have h2 := put_dep (e := e) (o c List.mem_cons_self)
    show (putAll cs (c.put e)).dep ≤ _
    rw [List.length_cons]
    omega
def fac1 (rs : List Int) (F : Int) : Cx1 → Int
  | .times f => F * f
  | .by i => F * rs.getD i 0
  | .r .less _ => 0 - F
  | _ => F
def fac (rs : List Int) (cs : List Cx1) : Int := cs.foldl (fac1 rs) 1

/-! ### a greater part put in -/
def Btw (d m : Int) : Prop := (0 ≤ d ∧ d ≤ m) ∨ (m ≤ d ∧ d ≤ 0)
theorem btw_mul {f d m : Int} (h : Btw d m) : Btw (f * d) (f * m) := by
  rcases Int.le_total 0 f with hf | hf
  · rcases h with ⟨h1, h2⟩ | ⟨h1, h2⟩
    · exact .inl ⟨Int.mul_nonneg hf h1, Int.mul_le_mul_of_nonneg_left h2 hf⟩
    · exact .inr ⟨Int.mul_le_mul_of_nonneg_left h1 hf, Int.mul_nonpos_of_nonneg_of_nonpos hf h2⟩
  · rcases h with ⟨h1, h2⟩ | ⟨h1, h2⟩
    · exact .inr ⟨Int.mul_le_mul_of_nonpos_left hf h2, Int.mul_nonpos_of_nonpos_of_nonneg hf h1⟩
    · exact .inl ⟨Int.mul_nonneg_of_nonpos_of_nonpos hf h2, Int.mul_le_mul_of_nonpos_left hf h1⟩
theorem btw_zero {m : Int} : Btw 0 m := by
  unfold Btw
  omega
theorem btw_jw {d m x y z : Int} (w : W4) (h : Btw d m) (e : d = y - x) (hw : w ≠ .less) : Btw (jw w y z - jw w x z) m := by
  unfold Btw at *
  cases w with
  | sum => simp only [jw]; omega
  | less => exact absurd rfl hw
  | least => simp only [jw]; split <;> split <;> omega
  | most => simp only [jw]; split <;> split <;> omega
theorem btw_jw' {d m x y z : Int} (w : W4) (h : Btw d m) (e : d = y - x) (hw : w ≠ .less) : Btw (jw w z y - jw w z x) m := by
  unfold Btw at *
  cases w with
  | sum => simp only [jw]; omega
  | less => exact absurd rfl hw
  | least => simp only [jw]; split <;> split <;> omega
  | most => simp only [jw]; split <;> split <;> omega
theorem btw_step {rs ss : List Int} {c : Cx1} {e1 e2 : Ex} {F P : Int} (h : Btw (wo rs ss e2 - wo rs ss e1) (F * P)) : Btw (wo rs ss (c.put e2) - wo rs ss (c.put e1)) (fac1 rs F c * P) := by
  cases c with
  | l w x =>
    cases w with
    | less =>
      show Btw ((wo rs ss e2 - wo rs ss x) - (wo rs ss e1 - wo rs ss x)) (F * P)
      rw [show (wo rs ss e2 - wo rs ss x) - (wo rs ss e1 - wo rs ss x) = wo rs ss e2 - wo rs ss e1 by omega]
      exact h
    | sum => exact btw_jw .sum h rfl (by simp)
    | least => exact btw_jw .least h rfl (by simp)
    | most => exact btw_jw .most h rfl (by simp)
  | r w x =>
    cases w with
    | less =>
      show Btw ((wo rs ss x - wo rs ss e2) - (wo rs ss x - wo rs ss e1)) ((0 - F) * P)
      rw [Int.sub_mul, Int.zero_mul]
      unfold Btw at *
      omega
    | sum => exact btw_jw' .sum h rfl (by simp)
    | least => exact btw_jw' .least h rfl (by simp)
    | most => exact btw_jw' .most h rfl (by simp)
  | times f =>
    show Btw (f * wo rs ss e2 - f * wo rs ss e1) (F * f * P)
    rw [← Int.mul_sub, Int.mul_comm F f, Int.mul_assoc]
    exact btw_mul h
  | «by» i =>
    show Btw (rs.getD i 0 * wo rs ss e2 - rs.getD i 0 * wo rs ss e1) (F * rs.getD i 0 * P)
    rw [← Int.mul_sub, Int.mul_comm F, Int.mul_assoc]
    exact btw_mul h
  | whenL i c x =>
    show Btw ((if rs.getD i 0 < c then wo rs ss e2 else wo rs ss x) - (if rs.getD i 0 < c then wo rs ss e1 else wo rs ss x)) (F * P)
    split
    · exact h
    · rw [Int.sub_self]
      exact btw_zero
  | whenR i c x =>
    show Btw ((if rs.getD i 0 < c then wo rs ss x else wo rs ss e2) - (if rs.getD i 0 < c then wo rs ss x else wo rs ss e1)) (F * P)
    split
    · rw [Int.sub_self]
      exact btw_zero
    · exact h
  | whrL j c x =>
    show Btw ((if 1000 * ss.getD j 0 < c * ss.sum then wo rs ss e2 else wo rs ss x) - (if 1000 * ss.getD j 0 < c * ss.sum then wo rs ss e1 else wo rs ss x)) (F * P)
    split
    · exact h
    · rw [Int.sub_self]
      exact btw_zero
  | whrR j c x =>
    show Btw ((if 1000 * ss.getD j 0 < c * ss.sum then wo rs ss x else wo rs ss e2) - (if 1000 * ss.getD j 0 < c * ss.sum then wo rs ss x else wo rs ss e1)) (F * P)
    split
    · rw [Int.sub_self]
      exact btw_zero
    · exact h
theorem btw_all {rs ss : List Int} {P : Int} : ∀ {cs : List Cx1} {e1 e2 : Ex} {F : Int}, Btw (wo rs ss e2 - wo rs ss e1) (F * P) → Btw (wo rs ss (putAll cs e2) - wo rs ss (putAll cs e1)) (cs.foldl (fac1 rs) F * P)
  | [], _, _, _, h => h
  | c :: cs, e1, e2, F, h => btw_all (cs := cs) (e1 := c.put e1) (e2 := c.put e2) (F := fac1 rs F c) (btw_step h)
theorem moved {rs ss : List Int} {cs : List Cx1} {e : Ex} {p : Int} (h : 0 ≤ p * ss.sum) : Btw (wo rs ss (putAll cs (.two .sum e (.fig p))) - wo rs ss (putAll cs e)) (fac rs cs * p * ss.sum) := by
  rw [Int.mul_assoc]
  refine btw_all (F := 1) ?_
  show Btw (wo rs ss e + p * ss.sum - wo rs ss e) (1 * (p * ss.sum))
  rw [Int.one_mul]
  unfold Btw
  omega

/-! ### worths lie in their spans -/
theorem le_sum : ∀ {ss : List Int} {j : Nat}, (∀ x ∈ ss, 0 ≤ x) → j < ss.length → ss.getD j 0 ≤ ss.sum
  | [], _, _, h => by simp at h
  | x :: ss, 0, h, _ => by
    have := sum_nonneg (ms := ss) fun y hy => h y (List.mem_cons_of_mem _ hy)
    show x ≤ (x :: ss).sum
    rw [List.sum_cons]
    omega
  | x :: ss, j + 1, h, hj => by
    have h1 := le_sum (ss := ss) (j := j) (fun y hy => h y (List.mem_cons_of_mem _ hy)) (by simpa using hj)
    have h2 := h x List.mem_cons_self
    show ss.getD j 0 ≤ (x :: ss).sum
    rw [List.sum_cons]
    omega
theorem spn_le : ∀ e : Ex, (spn e).1 ≤ (spn e).2
  | .fig _ => Int.le_refl _
  | .reg _ => by
    show (-1000 : Int) ≤ 1000
    decide
  | .share _ => by
    show (0 : Int) ≤ 1000
    decide
  | .two w a b => by
    have ha := spn_le a
    have hb := spn_le b
    show (js w (spn a) (spn b)).1 ≤ (js w (spn a) (spn b)).2
    cases w with
    | sum => show _ + _ ≤ _ + _; omega
    | less => show _ - _ ≤ _ - _; omega
    | least => show mn _ _ ≤ mn _ _; unfold mn; split <;> split <;> omega
    | most => show mx _ _ ≤ mx _ _; unfold mx; split <;> split <;> omega
  | .times f a => by
    show mn _ _ ≤ mx _ _
    unfold mn mx
    split <;> split <;> omega
  | .by _ a => by
    have h1 : 0 ≤ ab (spn a).1 := by unfold ab; split <;> omega
    have h2 := le_mx (ab (spn a).1) (ab (spn a).2)
    show -1000 * _ ≤ 1000 * _
    omega
  | .when _ _ a b => by
    have ha := spn_le a
    have h1 := mn_le (spn a).1 (spn b).1
    have h2 := le_mx (spn a).2 (spn b).2
    show mn _ _ ≤ mx _ _
    omega
  | .whr _ _ a b => by
    have ha := spn_le a
    have h1 := mn_le (spn a).1 (spn b).1
    have h2 := le_mx (spn a).2 (spn b).2
    show mn _ _ ≤ mx _ _
    omega
theorem mulr_le {a b n : Int} (h : a ≤ b) (hn : 0 ≤ n) : a * n ≤ b * n := Int.mul_le_mul_of_nonneg_right h hn
theorem in_span {many : Nat} {rs ss : List Int} (hr : rs.length = 4) (hrb : ∀ x ∈ rs, -1000 ≤ x ∧ x ≤ 1000) (hs : ss.length = many) (hsb : ∀ x ∈ ss, 0 ≤ x) : ∀ e : Ex, ExOk many e → (spn e).1 * ss.sum ≤ wo rs ss e ∧ wo rs ss e ≤ (spn e).2 * ss.sum
  | .fig c, _ => ⟨Int.le_refl _, Int.le_refl _⟩
  | .reg i, o => by
    have hn := sum_nonneg hsb
    have h := hrb _ (getD_mem (ns := rs) (i := i) (by rw [hr]; exact o))
    exact ⟨mulr_le h.1 hn, mulr_le h.2 hn⟩
  | .share j, o => by
    have o : j < many := o
    have h1 := le_sum (j := j) hsb (by omega)
    have h2 := hsb _ (getD_mem (ns := ss) (i := j) (by omega))
    show 0 * ss.sum ≤ 1000 * ss.getD j 0 ∧ 1000 * ss.getD j 0 ≤ 1000 * ss.sum
    omega
  | .two w a b, o => by
    have ha := in_span hr hrb hs hsb a o.1
    have hb := in_span hr hrb hs hsb b o.2
    have hn := sum_nonneg hsb
    show (js w (spn a) (spn b)).1 * ss.sum ≤ jw w (wo rs ss a) (wo rs ss b) ∧ jw w (wo rs ss a) (wo rs ss b) ≤ (js w (spn a) (spn b)).2 * ss.sum
    cases w with
    | sum =>
      show ((spn a).1 + (spn b).1) * ss.sum ≤ wo rs ss a + wo rs ss b ∧ wo rs ss a + wo rs ss b ≤ ((spn a).2 + (spn b).2) * ss.sum
      rw [Int.add_mul, Int.add_mul]
      omega
    | less =>
      show ((spn a).1 - (spn b).2) * ss.sum ≤ wo rs ss a - wo rs ss b ∧ wo rs ss a - wo rs ss b ≤ ((spn a).2 - (spn b).1) * ss.sum
      rw [Int.sub_mul, Int.sub_mul]
      omega
    | least =>
      have h1 := mn_le (spn a).1 (spn b).1
      have h3 := mulr_le h1.1 hn
      have h4 := mulr_le h1.2 hn
      have h5 := mn_or (spn a).2 (spn b).2
      show mn (spn a).1 (spn b).1 * ss.sum ≤ (if wo rs ss b < wo rs ss a then wo rs ss b else wo rs ss a) ∧ (if wo rs ss b < wo rs ss a then wo rs ss b else wo rs ss a) ≤ mn (spn a).2 (spn b).2 * ss.sum
      rcases h5 with h5 | h5 <;> rw [h5] <;> split <;> omega
    | most =>
      have h1 := le_mx (spn a).2 (spn b).2
      have h3 := mulr_le h1.1 hn
      have h4 := mulr_le h1.2 hn
      have h5 := mx_or (spn a).1 (spn b).1
      show mx (spn a).1 (spn b).1 * ss.sum ≤ (if wo rs ss b > wo rs ss a then wo rs ss b else wo rs ss a) ∧ (if wo rs ss b > wo rs ss a then wo rs ss b else wo rs ss a) ≤ mx (spn a).2 (spn b).2 * ss.sum
      rcases h5 with h5 | h5 <;> rw [h5] <;> split <;> omega
  | .times f a, o => by
    have ha := in_span hr hrb hs hsb a o.2
    have hn := sum_nonneg hsb
    have m1 := mn_le (f * (spn a).1) (f * (spn a).2)
    have m2 := le_mx (f * (spn a).1) (f * (spn a).2)
    have n1 := mulr_le m1.1 hn
    have n2 := mulr_le m1.2 hn
    have n3 := mulr_le m2.1 hn
    have n4 := mulr_le m2.2 hn
    rw [Int.mul_assoc] at n1 n2 n3 n4
    show mn _ _ * ss.sum ≤ f * wo rs ss a ∧ f * wo rs ss a ≤ mx _ _ * ss.sum
    rcases Int.le_total 0 f with hf | hf
    · have p1 := Int.mul_le_mul_of_nonneg_left ha.1 hf
      have p2 := Int.mul_le_mul_of_nonneg_left ha.2 hf
      omega
    · have p1 := Int.mul_le_mul_of_nonpos_left hf ha.1
      have p2 := Int.mul_le_mul_of_nonpos_left hf ha.2
      omega
  | .by i a, o => by
    have ha := in_span hr hrb hs hsb a o.2
    have hn := sum_nonneg hsb
    have hg := hrb _ (getD_mem (ns := rs) (i := i) (by rw [hr]; exact o.1))
    generalize ht : mx (ab (spn a).1) (ab (spn a).2) = t
    have t1 : -t ≤ (spn a).1 ∧ (spn a).2 ≤ t := by
      have h2 := le_mx (ab (spn a).1) (ab (spn a).2)
      rw [ht] at h2
      have h3 : -(spn a).1 ≤ ab (spn a).1 := by unfold ab; split <;> omega
      have h4 : (spn a).2 ≤ ab (spn a).2 := by unfold ab; split <;> omega
      omega
    have w1 : -(t * ss.sum) ≤ wo rs ss a := by
      have := mulr_le t1.1 hn
      rw [Int.neg_mul] at this
      omega
    have w2 : wo rs ss a ≤ t * ss.sum := by
      have := mulr_le t1.2 hn
      omega
    show (-1000 * mx (ab (spn a).1) (ab (spn a).2)) * ss.sum ≤ rs.getD i 0 * wo rs ss a ∧ rs.getD i 0 * wo rs ss a ≤ (1000 * mx (ab (spn a).1) (ab (spn a).2)) * ss.sum
    rw [ht, Int.mul_assoc, Int.mul_assoc]
    generalize rs.getD i 0 = g at *
    generalize t * ss.sum = T at *
    generalize wo rs ss a = x at *
    have hT : 0 ≤ T := by omega
    rcases Int.le_total 0 g with hgn | hgn
    · have p1 := Int.mul_le_mul_of_nonneg_left w1 hgn
      have p2 := Int.mul_le_mul_of_nonneg_left w2 hgn
      have p3 := Int.mul_le_mul_of_nonneg_right hg.2 hT
      rw [Int.mul_neg] at p1
      omega
    · have p1 := Int.mul_le_mul_of_nonpos_left hgn w1
      have p2 := Int.mul_le_mul_of_nonpos_left hgn w2
      have p3 := Int.mul_le_mul_of_nonneg_right hg.1 hT
      rw [Int.mul_neg] at p1
      omega
  | .when i c a b, o => by
    have ha := in_span hr hrb hs hsb a o.2.2.1
    have hb := in_span hr hrb hs hsb b o.2.2.2
    have hn := sum_nonneg hsb
    have m1 := mn_le (spn a).1 (spn b).1
    have m2 := le_mx (spn a).2 (spn b).2
    have n1 := mulr_le m1.1 hn
    have n2 := mulr_le m1.2 hn
    have n3 := mulr_le m2.1 hn
    have n4 := mulr_le m2.2 hn
    show mn _ _ * ss.sum ≤ (if rs.getD i 0 < c then wo rs ss a else wo rs ss b) ∧ (if rs.getD i 0 < c then wo rs ss a else wo rs ss b) ≤ mx _ _ * ss.sum
    split <;> omega
  | .whr j c a b, o => by
    have ha := in_span hr hrb hs hsb a o.2.2.1
    have hb := in_span hr hrb hs hsb b o.2.2.2
    have hn := sum_nonneg hsb
    have m1 := mn_le (spn a).1 (spn b).1
    have m2 := le_mx (spn a).2 (spn b).2
    have n1 := mulr_le m1.1 hn
    have n2 := mulr_le m1.2 hn
    have n3 := mulr_le m2.1 hn
    have n4 := mulr_le m2.2 hn
    show mn _ _ * ss.sum ≤ (if 1000 * ss.getD j 0 < c * ss.sum then wo rs ss a else wo rs ss b) ∧ (if 1000 * ss.getD j 0 < c * ss.sum then wo rs ss a else wo rs ss b) ≤ mx _ _ * ss.sum
    split <;> omega

/-! ### promises -/
def spAround (K : PySem.W.Frag) : Sp := fun vs H Q _ => ∃ (a : Addr) (many n : Nat), vs = [.ref a, .int (many : Int)] ∧ 2 ≤ many ∧ many ≤ 3 ∧ HandAt H a n ∧ n ≤ 999998000 ∧
  ∀ H' p xs cs, But a H H' → HandAt H' a (n + 90) → p ≠ a → H' p = some (.lst xs) → CtxsAt K H' xs cs → (∀ c ∈ cs, c.ok many) → cs.length ≤ 4 → Q (.ref p) H'
def spPut (K : PySem.W.Frag) : Sp := fun vs H Q _ => ∃ (p : Addr) (v : V) (xs : List V) (cs : List Cx1) (e : Ex), vs = [.ref p, v] ∧ H p = some (.lst xs) ∧ CtxsAt K H xs cs ∧ ExAt K H e v ∧ ∀ H' u, Same H H' → ExAt K H' (putAll cs e) u → Q u H'
def spFac (K : PySem.W.Frag) (many : Nat) : Sp := fun vs H Q _ => ∃ (p : Addr) (r : V) (xs : List V) (cs : List Cx1) (rs : List Int), vs = [.ref p, r] ∧ H p = some (.lst xs) ∧ CtxsAt K H xs cs ∧ (∀ c ∈ cs, c.ok many) ∧ RegsAt K H rs r ∧ Q (.int (fac rs cs)) H
end NG

namespace NG
open PySem PySem.Spec PyProof.Rows L2

/-! ### promises that are kept while no repr is under way -/
structure FnG (P : Program) (w : World) (K : PySem.W.Frag) (mg : Str → Option Value) (base : Heap) (k : Nat) (f : Addr) (fd : FuncData) (ps : List Str) (sp : Sp) : Prop where
  len : ∀ vs H Q E, sp vs H Q E → vs.length = ps.length
  run : ∀ (A : Around) (outer : List Env) (s : Shared) (H : Hp) (args : Args) (us : List Value) (vs : List V) (Q : VK), A.guards = some [] → Room k A → Env0 P w K mg base A outer s H → BindsTo s fd args (ps.zip us) → Vals vs us → sp vs H Q E0 →
    codeAny (model P w) A (.call (.ref f) args) (CR CX0 outer P w H s Q E0) s
theorem FnG.of {P : Program} {w : World} {K : PySem.W.Frag} {mg : Str → Option Value} {base : Heap} {k : Nat} {f : Addr} {fd : FuncData} {ps : List Str} {sp : Sp} (F : FnOk P w K mg base CX0 k f fd ps sp) : FnG P w K mg base k f fd ps sp :=
  ⟨F.len, fun A outer s H args us vs Q _ hr he hb hv hs => F.run A outer s H args us vs Q E0 hr he hb hv hs⟩
theorem fnG {P : Program} {w : World} {K : PySem.W.Frag} {mg : Str → Option Value} {base : Heap} {x qual : Str} {st : Stmt} {f : Addr} {fd : FuncData} {N ps : List Str} {k : Nat} {sp : Sp} (F : Fun K x qual st f fd) (S : FnScope N ps (defScope st)) (len : ∀ vs H Q E, sp vs H Q E → vs.length = ps.length)
    (walk : ∀ (cdv : Value) (A : Around) (outer : List Env) (s : Shared) (H : Hp) (vs : List V) (Q : VK), A.guards = some [] → Room k (A.deeper (envOfC qual (defScope st) s.heap.objs.size f cdv)) → sp vs H Q E0 →
      ∃ t, PSs (cxOf CX0 P w K mg base N qual (defScope st) f cdv A outer s H E0).nox (defBody st) t ∧ t { nx := fun _ H' => Q .non H', rt := Q } (start N vs) H) : FnG P w K mg base (k + 1) f fd ps sp := by
  obtain ⟨oc, od, kV, doc, pm, an, cdv, ct, osl, rfl, lk, hcd⟩ := F.ex
  refine ⟨len, fun A outer s H args us vs Q hg hr e0 bd rv hs => ?_⟩
  have inK : K.In s.heap := e0.mod.kin.keeps fun b o e => (e0.bs b o e).1
  have nolim : s.heap.NoLimit := e0.mod.nolimit.keeps fun b o e => (e0.bs b o e).1
  refine codeAny_call_function hr.depth (inK _ _ lk) rfl S.co S.gen rfl (PySem.W.codeRec_of inK hcd) (bd _ _ _ _ ?_)
  refine wpAny_newFunctionEnv_cells S.kind (fun y hy => ?_) fun env he s1 ic => ?_
  · obtain ⟨n, v⟩ := y
    rcases S.par n (List.of_mem_zip hy).1 with z | z
    · exact .inl z
    · exact .inr ⟨z, PySem.W.cellsFrom_some _ _ _ (.inl z)⟩
  subst he
  refine ⟨nolim.keeps ic.toInCall.keep, codeAny_func ?_⟩
  obtain ⟨t, ht, hq⟩ := walk cdv A outer s H vs Q hg (hr.deeper _) hs
  have I := inv_start (CX := CX0) (E := E0) S hr.hd e0 (len _ _ _ _ hs) rv ic
  refine wpAny_mono (ht.nox.run [] s1 (start N vs) H _ I hq) (fun fl s' hf => ?_) fun e s' hf => hf
  match fl, hf with
  | .ret u, ⟨v, σ', H', J, r, q⟩ => exact ⟨v, H', J.os, J.bare, J.base, J.hok, r, q⟩
  | .next, ⟨σ', H', J, q⟩ => exact ⟨.non, H', J.os, J.bare, J.base, J.hok, rfl, q⟩
  | .brk, ⟨_, _, _, q⟩ => exact q.elim
  | .cont, ⟨_, _, _, q⟩ => exact q.elim

structure CalG (P : Program) (w : World) (K : PySem.W.Frag) (mg : Str → Option Value) (base : Heap) (k : Nat) (x : Str) (sp : Sp) : Prop where
  ex : ∃ (f : Addr) (fd : FuncData) (ps : List Str), FnG P w K mg base k f fd ps sp ∧ mg x = some (.ref f) ∧ PySem.W.keepIn K (.ref f) = true ∧ Binds K fd ps []
theorem Cal.g {P : Program} {w : World} {K : PySem.W.Frag} {mg : Str → Option Value} {base : Heap} {k : Nat} {x : Str} {sp : Sp} (c : Cal P w K mg base k x sp) : CalG P w K mg base k x sp := by
  obtain ⟨f, fd, ps, F, r⟩ := c.ex
  exact ⟨f, fd, ps, .of F, r⟩
section
variable {X : Cx} {k j : Nat} {x : Str} {sp : Sp} {p pos : Pos} {e : Expr} {es : List Expr} {t : TA}
theorem pe_g (c : CalG X.prog X.w X.K X.mg X.base k x sp) (hgd : X.A.guards = some []) (hr : Room j X.A) (hk : k ≤ j) (hg : Gl X x) (ha : PA X (e :: es) t)
    (hdb : (x == ("__debug__" : Str)) = false := by decide) (he : starEach (e :: es) X.env = (false, eval e X.env) :: starEach es X.env := by rfl) (hpl : (backTo pos (starEach es X.env)).any (·.1) = false := by rfl) :
    PE X (.Call (.Name x p) (e :: es) [] pos) (tCall sp [] E0 t) := by
  obtain ⟨f, fd, ps, F, hm, kp, b⟩ := c.ex
  refine ⟨fun pins s σ H Q I h => wpAny_Call_Name_kw (ld_glob I hg hm ?_ hdb)⟩
  refine PySem.W.callWith_K (h₀ := X.base) I.ok.mod.kin kp (thn (ha.run pos pins s σ H _ I h) fun us s1 ⟨vs, H1, I1, r, q⟩ => ⟨I1.kIn, ?_⟩) he hpl
  have q : sp (vs ++ []) H1 Q E0 := q
  rw [List.append_nil] at q
  have hl : (us ++ []).length = ps.length := by
    rw [List.append_nil, ← r.length]
    exact F.len _ _ _ _ q
  have bd := b s1 us I1.kIn hl
  rw [List.append_nil] at bd
  refine wpAny_call (codeAny_mono (F.run X.A X.stack s1 H1 ⟨us, []⟩ us vs Q hgd (hr.mono hk) I1.env0 bd r q) fun res s' hq => ?_)
  match res, hq with
  | .ok (.ret u), hq => exact I1.after hq
  | .ok .next, hq => exact False.elim hq
  | .ok .brk, hq => exact False.elim hq
  | .ok .cont, hq => exact False.elim hq
  | .error e, hq => exact False.elim hq
end

/-! ### the law's call -/
theorem lawG {P : Program} {w : World} {K : PySem.W.Frag} {mg mb : Str → Option Value} {k : Nat} {fa a : Addr} {fd : FuncData} {x : Str} {sp : Sp} {st : Shared} {vs : List Value} {ns : List Int}
    (inK : K.In st.heap) (gl : st.heap.Ns mainGlobals mg) (bl : st.heap.Ns builtinsNs mb) (blt : ∀ y : Str, y ≠ "__name__" → mb y = bootBuiltins y) (lim : st.heap.NoLimit) (gens : st.gens = #[])
    (at0 : st.heap.get? a = some { cls := .type "list", data := .seq vs.toArray }) (hint : IntsAre vs ns) (short : ns.length ≤ sizeLine) (room : Room k callerA)
    (F : ∀ base : Heap, K.In base → base.Ns mainGlobals mg → FnG P w K mg base k fa fd [x] sp) (bind : ∀ (s : Shared) (u : Value), BindsTo s fd ⟨[u], []⟩ [(x, u)])
    (prom : ∀ H : Hp, Only H → SqL K H a (ns.map V.int) → sp [.ref a] H (fun v _ => v = .bl true) E0) :
    codeAny (model P w) callerA (.call (.ref fa) ⟨[.ref a], []⟩) (fun r s' => r = .ok (.ret (.bool true)) ∧ OldK st.heap s'.heap ∧ s'.os = st.os ∧ AllBare s'.gens) st := by
  have rel := vals_ints hint
  have go : ∀ H : Hp, Only H → SqL K H a (ns.map V.int) → HOk P w H st.heap → (∀ b, H b ≠ none → b = a ∧ K.lookup b = none) →
      codeAny (model P w) callerA (.call (.ref fa) ⟨[.ref a], []⟩) (fun r s' => r = .ok (.ret (.bool true)) ∧ OldK st.heap s'.heap ∧ s'.os = st.os ∧ AllBare s'.gens) st := by
    intro H on sq ok sole
    have dicts : ∀ {b : Addr} {o : Obj} {es : Array DictEntry} {ep : Nat}, st.heap.get? b = some o → o.data = .dict es ep → H b = none := by
      intro b o es ep e d
      by_cases z : H b = none
      · exact z
      · obtain ⟨rfl, _⟩ := sole b z
        rw [at0] at e
        cases e
        cases d
    have names : ∀ {b : Addr} {m : Str → Option Value}, st.heap.Ns b m → (hidT st.heap H).Ns b m := by
      rintro b m ⟨o, es, ep, e, d, r⟩
      exact ⟨o, es, ep, hidT_get e (dicts e d), d, r⟩
    have kin : K.In (hidT st.heap H) := by
      intro b o e
      refine hidT_get (inK b o e) ?_
      by_cases z : H b = none
      · exact z
      · rw [(sole b z).2] at e
        cases e
    have md : Mod K mg (hidT st.heap H) := by
      obtain ⟨mc, l1, l2⟩ := lim
      exact ⟨kin, names gl, ⟨mb, names bl, blt⟩, ⟨mc, names l1, l2⟩⟩
    have env : Env0 P w K mg (hidT st.heap H) callerA [] st H :=
      ⟨rfl, md, fun b o e => of_hidT e, Nat.le_of_eq (hidT_size _ _), trivial, fun b z => absurd (show b ∈ ([] : List Addr) from z) (by simp), ok, .of_eq gens⟩
    refine codeAny_mono ((F _ kin (names gl)).run callerA [] st H ⟨[.ref a], []⟩ [.ref a] [.ref a] _ rfl room env (bind st (.ref a)) (.cons rfl .nil) (prom H on sq)) fun res s' hq => ?_
    match res, hq with
    | .ok .next, hq => exact False.elim hq
    | .ok .brk, hq => exact False.elim hq
    | .ok .cont, hq => exact False.elim hq
    | .error e, hq => exact False.elim hq
    | .ok (.ret u), ⟨v, H', os, bare, un, ok', r, q⟩ =>
      have q : v = .bl true := q
      subst q
      have r : u = Value.bool true := r
      subst r
      refine ⟨rfl, OldK.of_keep fun b o e => ?_, os, bare⟩
      by_cases z : H b = none
      · exact un.keep b o e z (fun y => absurd (show b ∈ ([] : List Addr) from y) (by simp)) (by simp)
      · rcases on b with y | ⟨ob, xs, y⟩
        · exact absurd y z
        · obtain ⟨p1, _⟩ := ok b _ y
          obtain ⟨p2, _⟩ := ok' b _ (un.frzs b ob _ y)
          rw [e] at p1
          cases p1
          exact p2
  by_cases hk : K.lookup a = none
  · refine go (upd (fun _ => none) a (.frz { cls := .type "list", data := .seq vs.toArray } (.lst (ns.map V.int)))) (fun b => ?_) (.inl (.inr ⟨_, upd_same⟩)) (fun b u z => ?_) (fun b z => ?_)
    · by_cases hb : b = a
      · subst hb
        exact .inr ⟨_, _, upd_same⟩
      · exact .inl (upd_ne hb)
    · by_cases hb : b = a
      · subst hb
        rw [upd_same] at z
        cases z
        exact ⟨at0, by rw [List.length_map]; exact short, vs, _, rel, at0⟩
      · rw [upd_ne hb] at z
        cases z
    · by_cases hb : b = a
      · subst hb
        exact ⟨rfl, hk⟩
      · exact absurd (upd_ne hb) z
  · obtain ⟨o, ho⟩ := Option.ne_none_iff_exists'.mp hk
    have e := inK a o ho
    rw [at0] at e
    cases e
    refine go (fun _ => none) (fun _ => .inl rfl) (.inr ⟨_, vs.toArray, _, ho, rfl, rfl, rfl, ?_, by simpa using rel⟩) (fun b u z => by cases z) (fun b z => absurd rfl z)
    rw [List.size_toArray, hint.length]
    exact short
theorem walkG {l : PySem.W.OpenLaw} {n k : Nat} {q : Program} {loose : List Str} {XP : (Str → Option Value) → Heap → Prop} {YP : World → Heap → Prop} {d : DefRec} {K : Params → PySem.W.Frag} {sp : World → Sp} {x : Str}
    (hn : l.most = some n) (hn2 : n ≤ sizeLine) (hdf : d.params.defaults = []) (hr : Room k callerA) (hY : ∀ (w : World) (h : Heap), YP w h → (K w.params).In h)
    (F : ∀ (w : World) (mg : Str → Option Value) (fa : Addr) (h : Heap), (K w.params).In h → h.Ns mainGlobals mg → mg d.name = some (.ref fa) →
      ∃ fd : FuncData, (∀ (s : Shared) (u : Value), BindsTo s fd ⟨[u], []⟩ [(x, u)]) ∧ ∀ base : Heap, (K w.params).In base → base.Ns mainGlobals mg → FnG l.prog w (K w.params) mg base k fa fd [x] (sp w))
    (hsp : ∀ (w : World) (H : Hp) (a : Addr) (ns : List Int), ns.length ≤ n → Only H → SqL (K w.params) H a (ns.map V.int) → sp w [.ref a] H (fun v _ => v = .bl true) E0) :
    PySem.W.WalkO q loose XP YP l.row.toRowW d [] (fun f vs => PySem.call f vs) := by
  refine Att.attach_call hn hdf fun w s0 s1 mg mb fa o pm cd doc a vs ns G Y _ _ _ hmg hobj hints hlen hg => ?_
  have inK := hY w _ Y
  obtain ⟨fd, hb, hF⟩ := F w mg fa _ inK G.T.g hmg
  exact lawG inK G.T.g G.T.b G.T.builtins G.T.nolimit hg hobj hints (Nat.le_trans hlen hn2) hr hF hb fun H on sq => hsp w H a ns hlen on sq

/-! ### repr -/
mutual
theorem Dp_nodict {K : PySem.W.Frag} {H : Hp} : ∀ {d : PyData} {v : V}, Dp K H v d → d.hasDict = false
  | .none, _, _ => by simp only [PyData.hasDict]
  | .bool _, _, _ => by simp only [PyData.hasDict]
  | .int _, _, _ => by simp only [PyData.hasDict]
  | .str _, _, _ => by simp only [PyData.hasDict]
  | .list ds, _, h => by
    cases h with
    | lst _ h => simp only [PyData.hasDict, DpAll_nodict h]
  | .tuple ds, _, h => by
    cases h with
    | tup _ h => simp only [PyData.hasDict, DpAll_nodict h]
  | .dict _, _, h => by cases h
theorem DpAll_nodict {K : PySem.W.Frag} {H : Hp} : ∀ {ds : List PyData} {vs : List V}, DpAll K H vs ds → PyData.hasDictAll ds = false
  | [], _, _ => by simp only [PyData.hasDictAll]
  | d :: ds, _, h => by
    cases h with
    | cons h1 h2 => simp only [PyData.hasDictAll, Dp_nodict h1, DpAll_nodict h2, Bool.or_self]
end
def rRepr (K : PySem.W.Frag) : List V → Hp → VK → Prop := fun vs H Q => ∃ (p : Addr) (d : PyData), vs = [.ref p] ∧ Dp K H (.ref p) d ∧ d.showable = true ∧ d.depth ≤ 60 ∧ d.shown.length ≤ sizeLine ∧ Q (.str d.shown) H
theorem cr_repr {X : Cx} (hg : X.A.guards = some []) (hu : X.A.units + 64 < cLine) : CallR X (.builtin "repr") (rRepr X.K) := by
  intro pins s σ H vs us Q I r h
  obtain ⟨p, d, rfl, hd, hs, hz, hl, q⟩ := h
  rw [Vals.ref1 r]
  obtain ⟨as, rd⟩ := Dp.reads I d (.ref p) (.ref p) hd rfl
  exact repr_of_reads' rd hs (PyData.noDict_hsm (Dp_nodict hd)) hg (by omega) (fun _ _ e => e) (fun h' u tk hk => ⟨.str _, H, I.kept hk, ⟨_, rfl⟩, q⟩) hl
end NG

namespace NG
open PySem PySem.Spec PyProof.Rows L2

/-! ### xs[::-1] -/
theorem pe_revL {X : Cx} {e st : Expr} {te ts : TE} {pos p2 : Pos} (he : PE X e te) (hs : PE X st ts) : PE X (.Subscript e (.Slice none none (some st) p2) pos)
    (fun σ H Q => te σ H fun x H1 => ts σ H1 fun y H2 => y = .int (-1) ∧ ∃ a xs, x = .ref a ∧ SqL X.K H2 a xs ∧ ∀ p, H2 p = none → Q (.ref p) (upd H2 p (.lst xs.reverse))) := by
  refine ⟨fun pins s σ H Q I h => ?_⟩
  refine Subscript_ (thn (he.run pins s σ H _ I h) fun v s1 ⟨x, H1, I1, r1, q1⟩ => ?_)
  refine wpAny_Slice ?_
  rw [evalPart_none]
  refine wpAny_pure (wpAny_pure ?_)
  rw [evalPart_some]
  refine thn (hs.run pins s1 σ H1 _ I1 q1) fun vk s2 ⟨y, H2, I2, r2, q2⟩ => ?_
  obtain ⟨rfl, a, xs, rfl, hx, q⟩ := q2
  obtain ⟨t, rfl⟩ := r2
  cases r1
  obtain ⟨its, rv, ht, hz⟩ := I2.list hx
  have I3 : Inv X pins σ H2 { s2 with heap := s2.heap.push { cls := .type "slice", data := .fields #[.none, .none, .int (-1) t] } } := I2.kept (t' := s2.toks) fun b ob q => Heap.get?_push_of_some _ q
  obtain ⟨its', rv', ht', _⟩ := I3.list hx
  have hl := rv'.length
  refine tail_any (ops := [.ref a, .ref s2.heap.objs.size]) ht'.isList.typeIs slot_list_getitem.lookup ?_ (by with_unfolding_all rfl)
  refine wpAny_getItem_list_slice ht'.isList (Heap.IsSliceOf.new ..) .none .none (.int (-1) t) (by decide) ?_ (by rw [List.size_toArray]; omega)
  rw [PySem.W.krv_pick]
  refine ⟨.ref _, _, I3.laid (t' := s2.toks) (o := .lst xs.reverse) (fun b ob q => Heap.get?_push_of_some _ q) (Nat.le_refl _) ?_, rfl, q _ (I3.hok.fresh (Nat.le_refl _))⟩
  refine ⟨by rw [List.length_reverse]; exact hz, its'.reverse, 0, ?_, Heap.get?_push_size _ rfl⟩
  have rev : ∀ {xs : List V} {us : List Value}, Vals xs us → Vals xs.reverse us.reverse := by
    intro xs us r
    induction r with
    | nil => exact .nil
    | cons h t ih =>
      rw [List.reverse_cons, List.reverse_cons]
      exact ih.append (.cons h .nil)
  exact rev rv'

/-! ### calls by keywords alone, handed in from the last parameter to the first -/
theorem Vals.rev {xs : List V} {us : List Value} (r : Vals xs us) : Vals xs.reverse us.reverse := by
  induction r with
  | nil => exact .nil
  | cons h t ih =>
    rw [List.reverse_cons, List.reverse_cons]
    exact ih.append (.cons h .nil)
structure CalK (P : Program) (w : World) (K : PySem.W.Frag) (mg : Str → Option Value) (base : Heap) (k : Nat) (x : Str) (ks : List Str) (sp : Sp) : Prop where
  ex : ∃ (f : Addr) (fd : FuncData), FnG P w K mg base k f fd ks.reverse sp ∧ mg x = some (.ref f) ∧ PySem.W.keepIn K (.ref f) = true ∧ ∀ (s : Shared) (ws : List Value), ws.length = ks.length → BindsTo s fd ⟨[], ks.zip ws⟩ (ks.reverse.zip ws.reverse)
section
variable {X : Cx} {k j : Nat} {x : Str} {ks : List Str} {sp : Sp} {p pos : Pos} {kws : List Keyword} {tk : TA}
theorem pe_kw (c : CalK X.prog X.w X.K X.mg X.base k x ks sp) (hgd : X.A.guards = some []) (hr : Room j X.A) (hk : k ≤ j) (hg : Gl X x) (hkw : PK X kws tk) (hall : (backToKw pos (keywordEach kws X.env)).all (·.1.isSome) = true := by rfl) (hks : (backToKw pos (keywordEach kws X.env)).filterMap (·.1) = ks := by rfl)
    (hdb : (x == ("__debug__" : Str)) = false := by decide) (hpl : ((backTo pos (starEach [] X.env)).any (·.1) || (backToKw pos (keywordEach kws X.env)).any (·.1.isNone)) = false := by rfl) :
    PE X (.Call (.Name x p) [] kws pos) (fun σ H Q => tk σ H fun zs H2 => zs.length = ks.length ∧ sp zs.reverse H2 Q E0) := by
  obtain ⟨f, fd, F, hm, kp, b⟩ := c.ex
  refine ⟨fun pins s σ H Q I h => wpAny_Call_Name_kw (ld_glob I hg hm ?_ hdb)⟩
  refine PySem.W.callWith_KW0 (h₀ := X.base) I.ok.mod.kin kp hall (thn (hkw.run pos pins s σ H _ I h) fun ws s2 ⟨zs, H2, I2, rz, hl, q⟩ => ⟨I2.kIn, ?_⟩) hpl
  rw [hks]
  refine wpAny_call (codeAny_mono (F.run X.A X.stack s2 H2 ⟨[], ks.zip ws⟩ ws.reverse zs.reverse Q hgd (hr.mono hk) I2.env0 (b s2 ws (by rw [← rz.length]; exact hl)) (Vals.rev rz) q) fun res s' hq => ?_)
  match res, hq with
  | .ok (.ret u), hq => exact I2.after hq
  | .ok .next, hq => exact False.elim hq
  | .ok .brk, hq => exact False.elim hq
  | .ok .cont, hq => exact False.elim hq
  | .error e, hq => exact False.elim hq
end

/-! ### an expression as its items -/
inductive Itm where
  | s (x : Str) | i (c : Int) | k (e : Ex)
def ItAt (K : PySem.W.Frag) (H : Hp) : Itm → V → Prop
  | .s x, v => v = .str x
  | .i c, v => v = .int c
  | .k e, v => ExAt K H e v
def ItsAt (K : PySem.W.Frag) (H : Hp) : List V → List Itm → Prop
  | [], [] => True
  | v :: vs, t :: ts => ItAt K H t v ∧ ItsAt K H vs ts
  | _, _ => False
def Ex.items : Ex → List Itm
  | .fig c => [.s "fig", .i c]
  | .reg i => [.s "reg", .i (i : Int)]
  | .share j => [.s "share", .i (j : Int)]
  | .two w a b => [.s (wn w), .k a, .k b]
  | .times f a => [.s "times", .i f, .k a]
  | .by i a => [.s "by", .i (i : Int), .k a]
  | .when i c a b => [.s "when", .i (i : Int), .i c, .k a, .k b]
  | .whr j c a b => [.s "where", .i (j : Int), .i c, .k a, .k b]
def kidsI : List Itm → List Ex
  | [] => []
  | .k e :: r => e :: kidsI r
  | .s _ :: r => kidsI r
  | .i _ :: r => kidsI r
theorem kidsI_items (e : Ex) : kidsI e.items = e.kids := by cases e <;> rfl
theorem kidsI_append : ∀ (l r : List Itm), kidsI (l ++ r) = kidsI l ++ kidsI r
  | [], r => rfl
  | .k e :: l, r => by
    show e :: kidsI (l ++ r) = e :: (kidsI l ++ kidsI r)
    rw [kidsI_append l r]
  | .s _ :: l, r => kidsI_append l r
  | .i _ :: l, r => kidsI_append l r
theorem ExAt.its {K : PySem.W.Frag} {H : Hp} : ∀ {e : Ex} {v : V}, ExAt K H e v → ∃ p xs, v = .ref p ∧ SqT K H p xs ∧ ItsAt K H xs e.items
  | .fig _, _, ⟨p, e, q⟩ => ⟨p, _, e, q, rfl, rfl, trivial⟩
  | .reg _, _, ⟨p, e, q⟩ => ⟨p, _, e, q, rfl, rfl, trivial⟩
  | .share _, _, ⟨p, e, q⟩ => ⟨p, _, e, q, rfl, rfl, trivial⟩
  | .two _ _ _, _, ⟨p, x, y, e, q, a, b⟩ => ⟨p, _, e, q, rfl, a, b, trivial⟩
  | .times _ _, _, ⟨p, x, e, q, a⟩ => ⟨p, _, e, q, rfl, rfl, a, trivial⟩
  | .by _ _, _, ⟨p, x, e, q, a⟩ => ⟨p, _, e, q, rfl, rfl, a, trivial⟩
  | .when _ _ _ _, _, ⟨p, x, y, e, q, a, b⟩ => ⟨p, _, e, q, rfl, rfl, rfl, a, b, trivial⟩
  | .whr _ _ _ _, _, ⟨p, x, y, e, q, a, b⟩ => ⟨p, _, e, q, rfl, rfl, rfl, a, b, trivial⟩
theorem ItsAt.get {K : PySem.W.Frag} {H : Hp} : ∀ {vs : List V} {ts : List Itm} {k : Nat} {v : V}, ItsAt K H vs ts → vs[k]? = some v → ∃ t, ts[k]? = some t ∧ ItAt K H t v
  | [], [], _, _, _, h => by simp at h
  | v' :: vs, t :: ts, 0, v, ⟨x, r⟩, h => by
    have : v' = v := Option.some.inj h
    subst this
    exact ⟨t, rfl, x⟩
  | v' :: vs, t :: ts, k + 1, v, ⟨x, r⟩, h => ItsAt.get (k := k) r h
theorem ItsAt.len {K : PySem.W.Frag} {H : Hp} : ∀ {vs : List V} {ts : List Itm}, ItsAt K H vs ts → vs.length = ts.length
  | [], [], _ => rfl
  | _ :: _, _ :: _, ⟨_, r⟩ => by rw [List.length_cons, List.length_cons, r.len]
theorem tyx_tup {K : PySem.W.Frag} {H : Hp} {p : Addr} {xs : List V} (h : SqT K H p xs) : TyX K H (.ref p) (.type "tuple") := by
  rcases h with (h | ⟨o, h⟩) | ⟨o, its, n, h1, h2, _⟩
  · exact .base (.tup h)
  · exact .fTuple h
  · exact .kTuple h1 h2
def Itm.isK : Itm → Bool
  | .k _ => true
  | _ => false
theorem isi_item {K : PySem.W.Frag} {H : Hp} {t : Itm} {v : V} (h : ItAt K H t v) : ∃ ty, TyX K H v ty ∧ PySem.W.kitOne K ty (.type "tuple") = some t.isK := by
  cases t with
  | s x =>
    have h : v = .str x := h
    subst h
    exact ⟨_, .base (.str x), kit_ty (show kitB "str" "tuple" = some false by decide +kernel)⟩
  | i c =>
    have h : v = .int c := h
    subst h
    exact ⟨_, .base (.int c), kit_ty (show kitB "int" "tuple" = some false by decide +kernel)⟩
  | k e =>
    obtain ⟨p, xs, rfl, hp, _⟩ := ExAt.its h
    exact ⟨_, tyx_tup hp, kit_ty (show kitB "tuple" "tuple" = some true by decide +kernel)⟩

/-! ### as data, for repr -/
def toI : Itm → (Ex → PyData) → PyData
  | .s x, _ => .str x
  | .i c, _ => .int c
  | .k e, f => f e
def toD : Ex → PyData
  | .fig c => .tuple [.str "fig", .int c]
  | .reg i => .tuple [.str "reg", .int (i : Int)]
  | .share j => .tuple [.str "share", .int (j : Int)]
  | .two w a b => .tuple [.str (wn w), toD a, toD b]
  | .times f a => .tuple [.str "times", .int f, toD a]
  | .by i a => .tuple [.str "by", .int (i : Int), toD a]
  | .when i c a b => .tuple [.str "when", .int (i : Int), .int c, toD a, toD b]
  | .whr j c a b => .tuple [.str "where", .int (j : Int), .int c, toD a, toD b]
theorem ExAt.dp {K : PySem.W.Frag} {H : Hp} : ∀ {e : Ex} {v : V}, ExAt K H e v → Dp K H v (toD e)
  | .fig _, _, ⟨p, e, q⟩ => by subst e; exact .tup q (.cons (.str _) (.cons (.int _) .nil))
  | .reg _, _, ⟨p, e, q⟩ => by subst e; exact .tup q (.cons (.str _) (.cons (.int _) .nil))
  | .share _, _, ⟨p, e, q⟩ => by subst e; exact .tup q (.cons (.str _) (.cons (.int _) .nil))
  | .two _ _ _, _, ⟨p, x, y, e, q, a, b⟩ => by subst e; exact .tup q (.cons (.str _) (.cons a.dp (.cons b.dp .nil)))
  | .times _ _, _, ⟨p, x, e, q, a⟩ => by subst e; exact .tup q (.cons (.str _) (.cons (.int _) (.cons a.dp .nil)))
  | .by _ _, _, ⟨p, x, e, q, a⟩ => by subst e; exact .tup q (.cons (.str _) (.cons (.int _) (.cons a.dp .nil)))
  | .when _ _ _ _, _, ⟨p, x, y, e, q, a, b⟩ => by subst e; exact .tup q (.cons (.str _) (.cons (.int _) (.cons (.int _) (.cons a.dp (.cons b.dp .nil)))))
  | .whr _ _ _ _, _, ⟨p, x, y, e, q, a, b⟩ => by subst e; exact .tup q (.cons (.str _) (.cons (.int _) (.cons (.int _) (.cons a.dp (.cons b.dp .nil)))))
/-- short enough to be shown: every number below 2 ^ 600, every sign small -/
structure Shw (d : PyData) (w k : Nat) : Prop where
  sh : d.showable = true
  lf : d.leavesShort 700 = true
  wt : d.weight ≤ w
  dp : d.depth ≤ k
theorem log_of {i : Int} (h : i.natAbs < 2 ^ 600) : i.natAbs.log2 < 600 := PySem.Flt.log2_lt_of (by decide) h
theorem Shw.int {i : Int} (h : i.natAbs < 2 ^ 600) : Shw (.int i) 601 0 := by
  have hl := log_of h
  refine ⟨?_, ?_, ?_, Nat.le_refl _⟩
  · show decide (i.natAbs.log2 < 1920) = true
    exact decide_eq_true (by omega)
  · show decide ((PyData.shown (.int i)).length ≤ 700) = true
    refine decide_eq_true ?_
    have e := int_text_length_le (k := 600) (by decide) hl
    show (Str.ofString (toString i)).length ≤ 700
    rw [PySem.ofString_length]
    omega
  · show (if i == 0 then 0 else i.natAbs.log2 + 1) ≤ 601
    split <;> omega
theorem Shw.small {i : Int} (h : i.natAbs < 2 ^ 15) : Shw (.int i) 15 0 := by
  have hl : i.natAbs.log2 < 15 := PySem.Flt.log2_lt_of (by decide) h
  have h6 := Shw.int (i := i) (Nat.lt_of_lt_of_le h (Nat.pow_le_pow_right (by decide) (by decide)))
  refine ⟨h6.sh, h6.lf, ?_, Nat.le_refl _⟩
  show (if i == 0 then 0 else i.natAbs.log2 + 1) ≤ 15
  split <;> omega
theorem Shw.str {x : Str} (h : (x.cps.toList.all fun c => decide (c < 16 ^ 8)) = true) (hl : x.cps.size ≤ 10) : Shw (.str x) 10 0 := ⟨rfl, h, hl, Nat.le_refl _⟩
structure ShwAll (ds : List PyData) (w k : Nat) : Prop where
  sh : PyData.showableAll ds = true
  lf : PyData.leavesShortAll 700 ds = true
  wt : PyData.weightAll ds ≤ w
  dp : PyData.depthAll ds ≤ k
theorem ShwAll.nil {k : Nat} : ShwAll [] 0 k := ⟨rfl, rfl, Nat.le_refl _, Nat.zero_le _⟩
theorem ShwAll.cons {d : PyData} {ds : List PyData} {w1 w2 k1 k2 k : Nat} (h1 : Shw d w1 k1) (h2 : ShwAll ds w2 k2) (hk1 : k1 ≤ k) (hk2 : k2 ≤ k) : ShwAll (d :: ds) (w1 + 1 + w2) k := by
  refine ⟨?_, ?_, ?_, ?_⟩
  · show (d.showable && PyData.showableAll ds) = true
    rw [h1.sh, h2.sh]
    rfl
  · show (d.leavesShort 700 && PyData.leavesShortAll 700 ds) = true
    rw [h1.lf, h2.lf]
    rfl
  · show d.weight + 1 + PyData.weightAll ds ≤ _
    have := h1.wt
    have := h2.wt
    omega
  · show max d.depth (PyData.depthAll ds) ≤ k
    have := h1.dp
    have := h2.dp
    omega
theorem ShwAll.tup {ds : List PyData} {w k : Nat} (h : ShwAll ds w k) : Shw (.tuple ds) w (k + 1) := ⟨h.sh, h.lf, h.wt, by show PyData.depthAll ds + 1 ≤ k + 1; have := h.dp; omega⟩
theorem ShwAll.lst {ds : List PyData} {w k : Nat} (h : ShwAll ds w k) : Shw (.list ds) w (k + 1) := ⟨h.sh, h.lf, h.wt, by show PyData.depthAll ds + 1 ≤ k + 1; have := h.dp; omega⟩
theorem Shw.mono {d : PyData} {w w' k k' : Nat} (h : Shw d w k) (hw : w ≤ w') (hk : k ≤ k') : Shw d w' k' := ⟨h.sh, h.lf, Nat.le_trans h.wt hw, Nat.le_trans h.dp hk⟩
theorem Shw.fits {d : PyData} {w k : Nat} (h : Shw d w k) (hw : w ≤ 20000) : d.shown.length ≤ sizeLine := by
  have := PyData.shown_le 700 (by decide) d h.lf
  have := h.wt
  have e : sizeLine = 16777216 := by decide
  omega
def wgt : Nat → Nat
  | 0 => 0
  | n + 1 => 2 * wgt n + 60
theorem wgt_mono : ∀ {m n : Nat}, m ≤ n → wgt m ≤ wgt n
  | 0, _, _ => Nat.zero_le _
  | m + 1, 0, h => absurd h (by omega)
  | m + 1, n + 1, h => by
    have := wgt_mono (m := m) (n := n) (by omega)
    show 2 * wgt m + 60 ≤ 2 * wgt n + 60
    omega
theorem shw_ex {many : Nat} (hm : many ≤ 1000) : ∀ {e : Ex}, ExOk many e → Shw (toD e) (wgt e.dep) e.dep
  | .fig c, o => (ShwAll.tup (.cons (.str (by decide) (by decide)) (.cons (.small (by have := o.1; have := o.2; omega)) .nil (Nat.le_refl 0) (Nat.le_refl 0)) (Nat.le_refl 0) (Nat.le_refl 0))).mono (show _ ≤ wgt 1 by decide) (show 0 + 1 ≤ 1 by decide)
  | .reg i, o => by
    have o : i < 4 := o
    exact (ShwAll.tup (.cons (.str (by decide) (by decide)) (.cons (.small (by omega)) .nil (Nat.le_refl 0) (Nat.le_refl 0)) (Nat.le_refl 0) (Nat.le_refl 0))).mono (show _ ≤ wgt 1 by decide) (show 0 + 1 ≤ 1 by decide)
  | .share j, o => by
    have o : j < many := o
    exact (ShwAll.tup (.cons (.str (by decide) (by decide)) (.cons (.small (by omega)) .nil (Nat.le_refl 0) (Nat.le_refl 0)) (Nat.le_refl 0) (Nat.le_refl 0))).mono (show _ ≤ wgt 1 by decide) (show 0 + 1 ≤ 1 by decide)
  | .two w a b, o => by
    have ha := shw_ex hm (e := a) o.1
    have hb := shw_ex hm (e := b) o.2
    have hw : Shw (.str (wn w)) 10 0 := by cases w <;> exact .str (by decide) (by decide)
    have h1 := wgt_mono (Nat.le_max_left a.dep b.dep)
    have h2 := wgt_mono (Nat.le_max_right a.dep b.dep)
    refine (ShwAll.tup (.cons hw (.cons ha (.cons hb .nil (Nat.le_refl _) (Nat.zero_le _)) (Nat.le_max_left a.dep b.dep) (Nat.le_max_right a.dep b.dep)) (Nat.zero_le _) (Nat.le_refl _))).mono ?_ (Nat.le_refl _)
    show 10 + 1 + (wgt a.dep + 1 + (wgt b.dep + 1 + 0)) ≤ 2 * wgt (max a.dep b.dep) + 60
    omega
  | .times f a, o => by
    have ha := shw_ex hm (e := a) o.2
    refine (ShwAll.tup (.cons (.str (by decide) (by decide)) (.cons (.small (by have := o.1; omega)) (.cons ha .nil (Nat.le_refl _) (Nat.zero_le _)) (Nat.zero_le _) (Nat.le_refl _)) (Nat.zero_le _) (Nat.le_refl _))).mono ?_ (Nat.le_refl _)
    show 10 + 1 + (15 + 1 + (wgt a.dep + 1 + 0)) ≤ 2 * wgt a.dep + 60
    omega
  | .by i a, o => by
    have ha := shw_ex hm (e := a) o.2
    refine (ShwAll.tup (.cons (.str (by decide) (by decide)) (.cons (.small (by have := o.1; omega)) (.cons ha .nil (Nat.le_refl _) (Nat.zero_le _)) (Nat.zero_le _) (Nat.le_refl _)) (Nat.zero_le _) (Nat.le_refl _))).mono ?_ (Nat.le_refl _)
    show 10 + 1 + (15 + 1 + (wgt a.dep + 1 + 0)) ≤ 2 * wgt a.dep + 60
    omega
  | .when i c a b, o => by
    have ha := shw_ex hm (e := a) o.2.2.1
    have hb := shw_ex hm (e := b) o.2.2.2
    have h1 := wgt_mono (Nat.le_max_left a.dep b.dep)
    have h2 := wgt_mono (Nat.le_max_right a.dep b.dep)
    refine (ShwAll.tup (.cons (.str (by decide) (by decide)) (.cons (.small (by have := o.1; omega)) (.cons (.small (by have := o.2.1; omega)) (.cons ha (.cons hb .nil (Nat.le_refl _) (Nat.zero_le _)) (Nat.le_max_left a.dep b.dep) (Nat.le_max_right a.dep b.dep)) (Nat.zero_le _) (Nat.le_refl _)) (Nat.zero_le _) (Nat.le_refl _)) (Nat.zero_le _) (Nat.le_refl _))).mono ?_ (Nat.le_refl _)
    show 10 + 1 + (15 + 1 + (15 + 1 + (wgt a.dep + 1 + (wgt b.dep + 1 + 0)))) ≤ 2 * wgt (max a.dep b.dep) + 60
    omega
  | .whr i c a b, o => by
    have ha := shw_ex hm (e := a) o.2.2.1
    have hb := shw_ex hm (e := b) o.2.2.2
    have h1 := wgt_mono (Nat.le_max_left a.dep b.dep)
    have h2 := wgt_mono (Nat.le_max_right a.dep b.dep)
    refine (ShwAll.tup (.cons (.str (by decide) (by decide)) (.cons (.small (by have := o.1; omega)) (.cons (.small (by have := o.2.1; omega)) (.cons ha (.cons hb .nil (Nat.le_refl _) (Nat.zero_le _)) (Nat.le_max_left a.dep b.dep) (Nat.le_max_right a.dep b.dep)) (Nat.zero_le _) (Nat.le_refl _)) (Nat.zero_le _) (Nat.le_refl _)) (Nat.zero_le _) (Nat.le_refl _))).mono ?_ (Nat.le_refl _)
    show 10 + 1 + (15 + 1 + (15 + 1 + (wgt a.dep + 1 + (wgt b.dep + 1 + 0)))) ≤ 2 * wgt (max a.dep b.dep) + 60
    omega
/-- numbers of spans and worths stay below 2 ^ 600 -/
theorem spn_bnd : ∀ {many : Nat} {e : Ex}, ExOk many e → (spn e).1.natAbs ≤ 1000 * 2000 ^ e.dep ∧ (spn e).2.natAbs ≤ 1000 * 2000 ^ e.dep := by
  intro many e
  have up : ∀ {m n : Nat}, m ≤ n → 1000 * 2000 ^ m ≤ 1000 * 2000 ^ n := fun h => Nat.mul_le_mul_left _ (Nat.pow_le_pow_right (by decide) h)
  have nx : ∀ n : Nat, 1000 * 2000 ^ (n + 1) = 2000 * (1000 * 2000 ^ n) := fun n => by rw [Nat.pow_succ]; omega
  induction e with
  | fig c =>
    intro o
    have := o.1
    have := o.2
    show c.natAbs ≤ 1000 * 2000 ^ 1 ∧ c.natAbs ≤ 1000 * 2000 ^ 1
    omega
  | reg i =>
    intro o
    show (-1000 : Int).natAbs ≤ 1000 * 2000 ^ 1 ∧ (1000 : Int).natAbs ≤ 1000 * 2000 ^ 1
    decide
  | share j =>
    intro o
    show (0 : Int).natAbs ≤ 1000 * 2000 ^ 1 ∧ (1000 : Int).natAbs ≤ 1000 * 2000 ^ 1
    decide
  | two w a b iha ihb =>
    intro o
    have ha := iha o.1
    have hb := ihb o.2
    have h1 := up (Nat.le_max_left a.dep b.dep)
    have h2 := up (Nat.le_max_right a.dep b.dep)
    show (js w (spn a) (spn b)).1.natAbs ≤ 1000 * 2000 ^ (max a.dep b.dep + 1) ∧ (js w (spn a) (spn b)).2.natAbs ≤ 1000 * 2000 ^ (max a.dep b.dep + 1)
    rw [nx]
    cases w with
    | sum => simp only [js]; omega
    | less => simp only [js]; omega
    | least => simp only [js, mn]; split <;> split <;> omega
    | most => simp only [js, mx]; split <;> split <;> omega
  | times f a ih =>
    intro o
    have ha := ih o.2
    have hf : f.natAbs ≤ 9 := by have := o.1; omega
    have m1 : (f * (spn a).1).natAbs ≤ 9 * (1000 * 2000 ^ a.dep) := by rw [Int.natAbs_mul]; exact Nat.mul_le_mul hf ha.1
    have m2 : (f * (spn a).2).natAbs ≤ 9 * (1000 * 2000 ^ a.dep) := by rw [Int.natAbs_mul]; exact Nat.mul_le_mul hf ha.2
    show (mn _ _).natAbs ≤ 1000 * 2000 ^ (a.dep + 1) ∧ (mx _ _).natAbs ≤ 1000 * 2000 ^ (a.dep + 1)
    rw [nx]
    unfold mn mx
    split <;> split <;> omega
  | «by» i a ih =>
    intro o
    have ha := ih o.2
    have m1 : (mx (ab (spn a).1) (ab (spn a).2)).natAbs ≤ 1000 * 2000 ^ a.dep := by
      unfold mx ab
      repeat' split
      all_goals omega
    show (-1000 * mx _ _).natAbs ≤ 1000 * 2000 ^ (a.dep + 1) ∧ (1000 * mx _ _).natAbs ≤ 1000 * 2000 ^ (a.dep + 1)
    rw [nx]
    omega
  | when i c a b iha ihb =>
    intro o
    have ha := iha o.2.2.1
    have hb := ihb o.2.2.2
    have h1 := up (Nat.le_max_left a.dep b.dep)
    have h2 := up (Nat.le_max_right a.dep b.dep)
    show (mn _ _).natAbs ≤ 1000 * 2000 ^ (max a.dep b.dep + 1) ∧ (mx _ _).natAbs ≤ 1000 * 2000 ^ (max a.dep b.dep + 1)
    rw [nx]
    unfold mn mx
    split <;> split <;> omega
  | whr i c a b iha ihb =>
    intro o
    have ha := iha o.2.2.1
    have hb := ihb o.2.2.2
    have h1 := up (Nat.le_max_left a.dep b.dep)
    have h2 := up (Nat.le_max_right a.dep b.dep)
    show (mn _ _).natAbs ≤ 1000 * 2000 ^ (max a.dep b.dep + 1) ∧ (mx _ _).natAbs ≤ 1000 * 2000 ^ (max a.dep b.dep + 1)
    rw [nx]
    unfold mn mx
    split <;> split <;> omega
theorem bnd_600 {d : Nat} {x : Int} (hd : d ≤ 10) (h : x.natAbs ≤ 1000 * 2000 ^ d) : x.natAbs < 2 ^ 300 := by
  have h1 : 1000 * 2000 ^ d ≤ 1000 * 2000 ^ 10 := Nat.mul_le_mul_left _ (Nat.pow_le_pow_right (by decide) hd)
  have h2 : (1000 * 2000 ^ 10 : Nat) < 2 ^ 300 := by decide
  omega
end NG

namespace NG
open PySem PySem.Spec PyProof.Rows L2

/-! ### leaves and borders -/
def lvs : Ex → Int
  | .fig _ => 1
  | .reg _ => 1
  | .share _ => 1
  | .two .sum a b => lvs a * lvs b
  | .two .less a b => lvs a * lvs b
  | .two .least a b => lvs a + lvs b
  | .two .most a b => lvs a + lvs b
  | .times _ a => lvs a
  | .by _ a => lvs a
  | .when _ _ a b => mx (lvs a) (lvs b)
  | .whr _ _ a b => lvs a + lvs b
def bds : Ex → Int
  | .fig _ => 0
  | .reg _ => 0
  | .share _ => 0
  | .two .sum a b => bds a + bds b
  | .two .less a b => bds a + bds b
  | .two .least a b => bds a + bds b + lvs a * lvs b
  | .two .most a b => bds a + bds b + lvs a * lvs b
  | .times _ a => bds a
  | .by _ a => bds a
  | .when _ _ a b => mx (bds a) (bds b)
  | .whr _ _ a b => bds a + bds b + 1
def bnd : Nat → Nat
  | 0 => 1
  | n + 1 => bnd n * bnd n + 2 * bnd n
theorem bnd_pos : ∀ n, 1 ≤ bnd n
  | 0 => Nat.le_refl _
  | n + 1 => by
    have := bnd_pos n
    show 1 ≤ bnd n * bnd n + 2 * bnd n
    omega
theorem bnd_up : ∀ {m n : Nat}, m ≤ n → bnd m ≤ bnd n := by
  intro m n h
  induction h with
  | refl => exact Nat.le_refl _
  | step _ ih =>
    refine Nat.le_trans ih ?_
    show _ ≤ bnd _ * bnd _ + 2 * bnd _
    omega
theorem lb_bnd : ∀ e : Ex, (lvs e).natAbs ≤ bnd e.dep ∧ (bds e).natAbs ≤ bnd e.dep := by
  intro e
  have pm : ∀ {x y : Int} {B : Nat}, x.natAbs ≤ B → y.natAbs ≤ B → (x * y).natAbs ≤ B * B := fun hx hy => by rw [Int.natAbs_mul]; exact Nat.mul_le_mul hx hy
  induction e with
  | fig c => exact ⟨by show 1 ≤ bnd 1; exact bnd_pos 1, Nat.zero_le _⟩
  | reg c => exact ⟨by show 1 ≤ bnd 1; exact bnd_pos 1, Nat.zero_le _⟩
  | share c => exact ⟨by show 1 ≤ bnd 1; exact bnd_pos 1, Nat.zero_le _⟩
  | two w a b iha ihb =>
    have h1 := bnd_up (Nat.le_max_left a.dep b.dep)
    have h2 := bnd_up (Nat.le_max_right a.dep b.dep)
    have hm := pm (Nat.le_trans iha.1 h1) (Nat.le_trans ihb.1 h2)
    show (lvs (.two w a b)).natAbs ≤ bnd (max a.dep b.dep) * bnd (max a.dep b.dep) + 2 * bnd (max a.dep b.dep) ∧ (bds (.two w a b)).natAbs ≤ bnd (max a.dep b.dep) * bnd (max a.dep b.dep) + 2 * bnd (max a.dep b.dep)
    cases w <;> simp only [lvs, bds] <;> omega
  | times f a ih =>
    show (lvs a).natAbs ≤ bnd a.dep * bnd a.dep + 2 * bnd a.dep ∧ (bds a).natAbs ≤ bnd a.dep * bnd a.dep + 2 * bnd a.dep
    omega
  | «by» i a ih =>
    show (lvs a).natAbs ≤ bnd a.dep * bnd a.dep + 2 * bnd a.dep ∧ (bds a).natAbs ≤ bnd a.dep * bnd a.dep + 2 * bnd a.dep
    omega
  | when i c a b iha ihb =>
    have h1 := bnd_up (Nat.le_max_left a.dep b.dep)
    have h2 := bnd_up (Nat.le_max_right a.dep b.dep)
    show (mx (lvs a) (lvs b)).natAbs ≤ bnd (max a.dep b.dep) * bnd (max a.dep b.dep) + 2 * bnd (max a.dep b.dep) ∧ (mx (bds a) (bds b)).natAbs ≤ bnd (max a.dep b.dep) * bnd (max a.dep b.dep) + 2 * bnd (max a.dep b.dep)
    unfold mx
    split <;> split <;> omega
  | whr i c a b iha ihb =>
    have h1 := bnd_up (Nat.le_max_left a.dep b.dep)
    have h2 := bnd_up (Nat.le_max_right a.dep b.dep)
    have h3 := bnd_pos (max a.dep b.dep)
    have h4 : bnd (max a.dep b.dep) ≤ bnd (max a.dep b.dep) * bnd (max a.dep b.dep) := Nat.le_mul_of_pos_left _ h3
    show (lvs a + lvs b).natAbs ≤ bnd (max a.dep b.dep) * bnd (max a.dep b.dep) + 2 * bnd (max a.dep b.dep) ∧ (bds a + bds b + 1).natAbs ≤ bnd (max a.dep b.dep) * bnd (max a.dep b.dep) + 2 * bnd (max a.dep b.dep)
    omega
theorem lvs_mul {e : Ex} {y : Int} (h : e.dep ≤ 5) : CMul (lvs e) y := by
  have h1 := (lb_bnd e).1
  have h2 := bnd_up h
  have h3 : bnd 5 < 2 ^ 64 := by decide
  exact .inl ⟨by omega, by omega⟩
theorem lb_600 {e : Ex} (h : e.dep ≤ 6) : (lvs e).natAbs < 2 ^ 600 ∧ (bds e).natAbs < 2 ^ 600 := by
  have h1 := lb_bnd e
  have h2 := bnd_up h
  have h3 : bnd 6 < 2 ^ 600 := by decide
  omega
def spCnt (K : PySem.W.Frag) (f : Ex → Int) (n : Nat) : Sp := fun vs H Q _ => ∃ (v : V) (e : Ex) (many : Nat), vs = [v] ∧ ExAt K H e v ∧ ExOk many e ∧ e.dep ≤ n ∧ e.dep ≤ 6 ∧ ∀ H', Same H H' → Q (.int (f e)) H'
def spLB (K : PySem.W.Frag) (n : Nat) : Sp := fun vs H Q _ => ∃ (v : V) (e : Ex) (many : Nat), vs = [v] ∧ ExAt K H e v ∧ ExOk many e ∧ e.dep ≤ n ∧ e.dep ≤ 6 ∧ ∀ H' u, Same H H' → SpAt K H' (lvs e, bds e) u → Q u H'

/-! ### the law's own reading -/
def Ex.rest : Ex → List Itm
  | .fig c => [.i c]
  | .reg i => [.i (i : Int)]
  | .share j => [.i (j : Int)]
  | .two _ a b => [.k a, .k b]
  | .times f a => [.i f, .k a]
  | .by i a => [.i (i : Int), .k a]
  | .when i c a b => [.i (i : Int), .i c, .k a, .k b]
  | .whr j c a b => [.i (j : Int), .i c, .k a, .k b]
theorem kidsI_rest (e : Ex) : kidsI e.rest = e.kids := by cases e <;> rfl
theorem rest_len (e : Ex) : e.rest.length ≤ 4 := by cases e <;> simp [Ex.rest]
theorem ItsAt.imp {K : PySem.W.Frag} {H H' : Hp} (sm : Same H H') : ∀ {vs : List V} {ts : List Itm}, ItsAt K H vs ts → ItsAt K H' vs ts
  | [], [], _ => trivial
  | _ :: _, .s _ :: _, ⟨x, r⟩ => ⟨x, r.imp sm⟩
  | _ :: _, .i _ :: _, ⟨x, r⟩ => ⟨x, r.imp sm⟩
  | _ :: _, .k e :: _, ⟨x, r⟩ => ⟨ExAt.same (e := e) x sm, r.imp sm⟩
theorem ExAt.rst {K : PySem.W.Frag} {H : Hp} : ∀ {e : Ex} {v : V}, ExAt K H e v → ∃ p xs, v = .ref p ∧ SqT K H p (.str (wordOf e) :: xs) ∧ 0 < xs.length ∧ ItsAt K H xs e.rest
  | .fig _, _, ⟨p, e, q⟩ => ⟨p, _, e, q, by simp, rfl, trivial⟩
  | .reg _, _, ⟨p, e, q⟩ => ⟨p, _, e, q, by simp, rfl, trivial⟩
  | .share _, _, ⟨p, e, q⟩ => ⟨p, _, e, q, by simp, rfl, trivial⟩
  | .two _ _ _, _, ⟨p, x, y, e, q, a, b⟩ => ⟨p, _, e, q, by simp, a, b, trivial⟩
  | .times _ _, _, ⟨p, x, e, q, a⟩ => ⟨p, _, e, q, by simp, rfl, a, trivial⟩
  | .by _ _, _, ⟨p, x, e, q, a⟩ => ⟨p, _, e, q, by simp, rfl, a, trivial⟩
  | .when _ _ _ _, _, ⟨p, x, y, e, q, a, b⟩ => ⟨p, _, e, q, by simp, rfl, rfl, a, b, trivial⟩
  | .whr _ _ _ _, _, ⟨p, x, y, e, q, a, b⟩ => ⟨p, _, e, q, by simp, rfl, rfl, a, b, trivial⟩
theorem cut1 {x : V} {xs : List V} : cutV (x :: xs) (some 1) none = xs := by
  unfold cutV
  rw [show HT.sIx (x :: xs).length 0 (some 1) = min 1 (x :: xs).length from HT.sIx_nat _ 0 1, HT.sIx_none, List.length_cons, show min 1 (xs.length + 1) = 1 by omega]
  show List.take (xs.length + 1 - 1) xs = xs
  rw [Nat.add_sub_cancel, List.take_length]
theorem cut1w {x : V} {xs : List V} (h : 0 < xs.length) : ¬ (HT.sIx (x :: xs).length 0 (some 1) = 0 ∧ HT.sIx (x :: xs).length (x :: xs).length none = (x :: xs).length) := by
  rw [show HT.sIx (x :: xs).length 0 (some 1) = min 1 (x :: xs).length from HT.sIx_nat _ 0 1, List.length_cons]
  omega
theorem kidsI_snoc {ts : List Itm} {i : Nat} {t : Itm} (h : ts[i]? = some t) : kidsI (ts.take (i + 1)) = kidsI (ts.take i) ++ kidsI [t] := by
  rw [List.take_add_one, h, kidsI_append]
  rfl
theorem mem_kidsI {e : Ex} : ∀ {ts : List Itm}, Itm.k e ∈ ts → e ∈ kidsI ts
  | .k e' :: r, h => by
    rcases List.mem_cons.mp h with h | h
    · cases h
      exact List.mem_cons_self
    · exact List.mem_cons_of_mem _ (mem_kidsI h)
  | .s _ :: r, h => by
    rcases List.mem_cons.mp h with h | h
    · cases h
    · exact mem_kidsI (ts := r) h
  | .i _ :: r, h => by
    rcases List.mem_cons.mp h with h | h
    · cases h
    · exact mem_kidsI (ts := r) h
theorem sort2 {ns : List Int} {a b : Int} (hp : ns.Perm [a, b]) (hs : ns.Pairwise (· ≤ ·)) : ns = [mn a b, mx a b] := by
  have hl := hp.length_eq
  match ns, hl with
  | [x, y], _ =>
    have hxy : x ≤ y := by simpa using hs
    have h1 : x = a ∨ x = b := by simpa using hp.mem_iff (a := x)
    have h2 : y = a ∨ y = b := by simpa using hp.mem_iff (a := y)
    have h3 : a = x ∨ a = y := by simpa using (hp.mem_iff (a := a)).mpr (by simp)
    have h4 : b = x ∨ b = y := by simpa using (hp.mem_iff (a := b)).mpr (by simp)
    have e1 : x = mn a b := by unfold mn; split <;> omega
    have e2 : y = mx a b := by unfold mx; split <;> omega
    rw [e1, e2]
theorem far_eq {lo hi : Int} (h : lo ≤ hi) : (if (0 - lo) > hi then (0 - lo) else hi) = mx (ab lo) (ab hi) := by
  unfold mx ab
  repeat' split
  all_goals omega
end NG

namespace NG
open PySem PySem.Spec PyProof.Rows L2
/-! ### len(set(xs)) of any list of ints -/
theorem met_mem (val : Nat → Int) : ∀ i x, x ∈ PyProof.Rows.firstMet val i ↔ ∃ j, j < i ∧ val j = x
  | 0, x => by
    rw [PyProof.Rows.firstMet_zero]
    exact ⟨fun h => (by cases h), fun ⟨j, h, _⟩ => (by omega)⟩
  | i + 1, x => by
    have ih := met_mem val i
    rw [PyProof.Rows.firstMet_succ]
    unfold PyProof.Rows.step_dedup
    by_cases c : ((PyProof.Rows.firstMet val i).any (· == val i)) = true
    · rw [if_pos c]
      obtain ⟨y, hy, ey⟩ := List.any_eq_true.mp c
      have ey : y = val i := eq_of_beq ey
      rw [ih]
      refine ⟨fun ⟨j, h, e⟩ => ⟨j, by omega, e⟩, fun ⟨j, h, e⟩ => ?_⟩
      by_cases hj : j < i
      · exact ⟨j, hj, e⟩
      · have : j = i := by omega
        subst this
        rw [ey] at hy
        obtain ⟨k, hk, ek⟩ := (ih _).mp hy
        exact ⟨k, hk, ek.trans e⟩
    · rw [if_neg c, List.mem_append, ih, List.mem_singleton]
      constructor
      · rintro (⟨j, h, e⟩ | e)
        · exact ⟨j, by omega, e⟩
        · exact ⟨i, by omega, e.symm⟩
      · rintro ⟨j, h, e⟩
        by_cases hj : j < i
        · exact .inl ⟨j, hj, e⟩
        · have : j = i := by omega
          subst this
          exact .inr e.symm
theorem met_nodup (val : Nat → Int) : ∀ i, (PyProof.Rows.firstMet val i).Nodup
  | 0 => by
    rw [PyProof.Rows.firstMet_zero]
    exact List.nodup_nil
  | i + 1 => by
    have ih := met_nodup val i
    rw [PyProof.Rows.firstMet_succ]
    unfold PyProof.Rows.step_dedup
    by_cases c : ((PyProof.Rows.firstMet val i).any (· == val i)) = true
    · rw [if_pos c]
      exact ih
    · rw [if_neg c]
      refine List.nodup_append.mpr ⟨ih, by simp, fun a ha b hb e => ?_⟩
      rw [List.mem_singleton.mp hb] at e
      refine c (List.any_eq_true.mpr ⟨a, ha, ?_⟩)
      rw [e]
      exact beq_self_eq_true _
def tLenSetG (K : PySem.W.Frag) (ta : TE) : TE := fun σ H Q => ta σ H fun x H1 => ∃ (l : Addr) (ns : List Int), x = .ref l ∧ SqL K H1 l (ns.map V.int) ∧ ns.length ≤ 1000 ∧ ∀ ds : List Int, ds.Nodup → (∀ z, z ∈ ds ↔ z ∈ ns) → ds.length ≤ ns.length → Q (.int (ds.length : Nat)) H1
theorem pe_lenSetG {X : Cx} {a : Expr} {ta : TE} {p p2 q pos : Pos} (hg : Gl X "len") (hm : X.mg "len" = none) (hg2 : Gl X "set") (hm2 : X.mg "set" = none) (ha : PE X a ta) (hc : X.calm = true := by rfl)
    (na : starEach [a] X.env = (false, eval a X.env) :: starEach [] X.env := by rfl) : PE X (.Call (.Name "len" p) [.Call (.Name "set" p2) [a] [] q] [] pos) (tLenSetG X.K ta) := by
  refine ⟨fun pins s σ H Q I h => ?_⟩
  refine Call_ (ld_blt I hg hm boot_len ?_)
  refine PyProof.Rows.callWith_builtin1 (PyProof.Rows.args_cons ?_ rfl) rfl rfl
  refine Call_ (ld_blt I hg2 hm2 boot_set ?_)
  refine PyProof.Rows.callWith_type1 (PyProof.Rows.args_cons (thn (ha.run pins s σ H _ I h) fun v s1 ⟨x, H1, I1, r1, q1⟩ => PyProof.Rows.args_nil ?_) na) na rfl
  obtain ⟨l, ns, rfl, hq, hl, q1⟩ := q1
  cases r1
  obtain ⟨its, r, pl, hz⟩ := I1.list hq
  have hlen : its.toArray.size = ns.length := by rw [List.size_toArray, ← r.length, List.length_map]
  refine call_set_list (I1.ok.hd hc) pl.isList (by simpa using RZ.intsAre_vals r) (by rw [hlen]; unfold scanBound; omega) fun h' tk hS hk => ?_
  refine PyProof.Rows.args_nil ?_
  rw [hlen] at hS
  have k1 := met_nodup (fun i => ns.getD i 0) ns.length
  have k2 := met_mem (fun i => ns.getD i 0) ns.length
  have k3 := PyProof.Rows.firstMet_length_le (fun i => ns.getD i 0) ns.length
  generalize PyProof.Rows.firstMet (fun i => ns.getD i 0) ns.length = ds at hS k1 k2 k3
  have k4 : ∀ z, z ∈ ds ↔ z ∈ ns := fun z => by
    rw [k2]
    constructor
    · rintro ⟨j, hj, rfl⟩
      exact getD_mem hj
    · intro hz
      obtain ⟨j, hj, e⟩ := List.mem_iff_getElem.mp hz
      refine ⟨j, hj, ?_⟩
      show ns.getD j 0 = z
      rw [List.getD_eq_getElem?_getD, List.getElem?_eq_getElem hj]
      exact e
  obtain ⟨o, es, ep, t, ho, hex, hd, _, _, _, hf, hn⟩ := hS
  have I2 : Inv X pins σ H1 { s1 with heap := h', toks := tk } := I1.kept fun b o e => hk b o (Heap.lt_size e) e
  exact call_len_set ho hex hd hf (by rw [hn]; omega) ⟨.int ds.length, H1, I2.tok _, ⟨_, by rw [hn]⟩, q1 ds k1 k4 k3⟩

/-! ### straight but for so many places -/
structure PL (N : Nat) (v : Nat → Int) (F : List (Int × Int)) (C : List (Nat → Bool)) : Prop where
  conv : ∀ c ∈ C, ∀ s u t, s ≤ u → u ≤ t → t ≤ N → c s = c t → c u = c s
  lin : ∀ s t, s ≤ t → t ≤ N → (∀ c ∈ C, c s = c t) → ∃ f ∈ F, ∀ u, s ≤ u → u ≤ t → v u = f.1 + f.2 * (u : Int)
def cutB (p q : Int) (t : Nat) : Bool := decide (p + q * (t : Int) < 0)
theorem cut_conv (p q : Int) {s u t : Nat} (h1 : s ≤ u) (h2 : u ≤ t) (h : cutB p q s = cutB p q t) : cutB p q u = cutB p q s := by
  unfold cutB at *
  have e1 : (s : Int) ≤ (u : Int) := by omega
  have e2 : (u : Int) ≤ (t : Int) := by omega
  have h : (p + q * (s : Int) < 0) ↔ (p + q * (t : Int) < 0) := by simpa using h
  rw [decide_eq_decide]
  by_cases c : 0 ≤ q
  · have a1 := Int.mul_le_mul_of_nonneg_left e1 c
    have a2 := Int.mul_le_mul_of_nonneg_left e2 c
    omega
  · have a1 := Int.mul_le_mul_of_nonpos_left (a := q) (by omega) e1
    have a2 := Int.mul_le_mul_of_nonpos_left (a := q) (by omega) e2
    omega
theorem PL.one {N : Nat} {v : Nat → Int} {p q : Int} (h : ∀ u, u ≤ N → v u = p + q * (u : Int)) : PL N v [(p, q)] [] :=
  ⟨fun c hc => (by cases hc), fun s t hs ht _ => ⟨(p, q), by simp, fun u _ hu => h u (by omega)⟩⟩
def prs {α : Type} (g : Int × Int → Int × Int → α) (F G : List (Int × Int)) : List α := F.flatMap fun f => G.map (g f)
theorem prs_len {α : Type} (g : Int × Int → Int × Int → α) (G : List (Int × Int)) : ∀ F, (prs g F G).length = F.length * G.length
  | [] => by simp [prs]
  | f :: F => by
    show (G.map (g f) ++ prs g F G).length = _
    rw [List.length_append, List.length_map, prs_len g G F, List.length_cons, Nat.succ_mul]
    omega
theorem prs_mem {α : Type} {g : Int × Int → Int × Int → α} {F G : List (Int × Int)} {x y : Int × Int} (hx : x ∈ F) (hy : y ∈ G) : g x y ∈ prs g F G := List.mem_flatMap.mpr ⟨x, hx, List.mem_map.mpr ⟨y, hy, rfl⟩⟩
theorem prs_inv {α : Type} {g : Int × Int → Int × Int → α} {F G : List (Int × Int)} {z : α} (h : z ∈ prs g F G) : ∃ x y, g x y = z := by
  obtain ⟨x, _, h⟩ := List.mem_flatMap.mp h
  obtain ⟨y, _, e⟩ := List.mem_map.mp h
  exact ⟨x, y, e⟩
theorem PL.lincomb {N : Nat} {v w z : Nat → Int} {F G : List (Int × Int)} {C D : List (Nat → Bool)} (a : PL N v F C) (b : PL N w G D) (k : Int) (h : ∀ u, z u = v u + k * w u) : PL N z (prs (fun f g => (f.1 + k * g.1, f.2 + k * g.2)) F G) (C ++ D) := by
  refine ⟨fun c hc => ?_, fun s t hs ht hC => ?_⟩
  · rcases List.mem_append.mp hc with hc | hc
    · exact a.conv c hc
    · exact b.conv c hc
  · obtain ⟨f, hf, e1⟩ := a.lin s t hs ht fun c hc => hC c (List.mem_append_left _ hc)
    obtain ⟨g, hg, e2⟩ := b.lin s t hs ht fun c hc => hC c (List.mem_append_right _ hc)
    refine ⟨_, prs_mem hf hg, fun u h1 h2 => ?_⟩
    rw [h, e1 u h1 h2, e2 u h1 h2]
    show f.1 + f.2 * (u : Int) + k * (g.1 + g.2 * (u : Int)) = f.1 + k * g.1 + (f.2 + k * g.2) * (u : Int)
    grind
theorem PL.scale {N : Nat} {v z : Nat → Int} {F : List (Int × Int)} {C : List (Nat → Bool)} (a : PL N v F C) (k : Int) (h : ∀ u, z u = k * v u) : PL N z (F.map fun f => (k * f.1, k * f.2)) C := by
  refine ⟨a.conv, fun s t hs ht hC => ?_⟩
  obtain ⟨f, hf, e1⟩ := a.lin s t hs ht hC
  refine ⟨_, List.mem_map.mpr ⟨f, hf, rfl⟩, fun u h1 h2 => ?_⟩
  rw [h, e1 u h1 h2]
  show k * (f.1 + f.2 * (u : Int)) = k * f.1 + k * f.2 * (u : Int)
  grind
/-- by a sign of each pair of forms -/
theorem PL.pick {N : Nat} {v w z : Nat → Int} {F G : List (Int × Int)} {C D : List (Nat → Bool)} (a : PL N v F C) (b : PL N w G D) (k : Int) (h : ∀ u, (k * (w u - v u) < 0 → z u = w u) ∧ (¬ k * (w u - v u) < 0 → z u = v u)) :
    PL N z (F ++ G) (C ++ D ++ prs (fun f g => cutB (k * (g.1 - f.1)) (k * (g.2 - f.2))) F G) := by
  refine ⟨fun c hc => ?_, fun s t hs ht hC => ?_⟩
  · rcases List.mem_append.mp hc with hc | hc
    · rcases List.mem_append.mp hc with hc | hc
      · exact a.conv c hc
      · exact b.conv c hc
    · obtain ⟨f, g, rfl⟩ := prs_inv hc
      exact fun s u t h1 h2 _ e => cut_conv _ _ h1 h2 e
  · obtain ⟨f, hf, e1⟩ := a.lin s t hs ht fun c hc => hC c (List.mem_append_left _ (List.mem_append_left _ hc))
    obtain ⟨g, hg, e2⟩ := b.lin s t hs ht fun c hc => hC c (List.mem_append_left _ (List.mem_append_right _ hc))
    have hcut := hC _ (List.mem_append_right _ (prs_mem hf hg))
    have key : ∀ u, s ≤ u → u ≤ t → (k * (w u - v u) < 0 ↔ cutB (k * (g.1 - f.1)) (k * (g.2 - f.2)) s = true) := fun u h1 h2 => by
      rw [← cut_conv _ _ h1 h2 hcut, e1 u h1 h2, e2 u h1 h2]
      unfold cutB
      rw [decide_eq_true_iff, show k * (g.1 + g.2 * (u : Int) - (f.1 + f.2 * (u : Int))) = k * (g.1 - f.1) + k * (g.2 - f.2) * (u : Int) by grind]
    by_cases c : cutB (k * (g.1 - f.1)) (k * (g.2 - f.2)) s = true
    · refine ⟨g, List.mem_append_right _ hg, fun u h1 h2 => ?_⟩
      rw [(h u).1 ((key u h1 h2).mpr c), e2 u h1 h2]
    · refine ⟨f, List.mem_append_left _ hf, fun u h1 h2 => ?_⟩
      rw [(h u).2 (fun z => c ((key u h1 h2).mp z)), e1 u h1 h2]
/-- by one sign for all -/
theorem PL.side {N : Nat} {v w z : Nat → Int} {F G : List (Int × Int)} {C D : List (Nat → Bool)} (a : PL N v F C) (b : PL N w G D) (p q : Int) (h : ∀ u, u ≤ N → z u = if p + q * (u : Int) < 0 then v u else w u) : PL N z (F ++ G) (C ++ D ++ [cutB p q]) := by
  refine ⟨fun c hc => ?_, fun s t hs ht hC => ?_⟩
  · rcases List.mem_append.mp hc with hc | hc
    · rcases List.mem_append.mp hc with hc | hc
      · exact a.conv c hc
      · exact b.conv c hc
    · rw [List.mem_singleton.mp hc]
      exact fun s u t h1 h2 _ e => cut_conv _ _ h1 h2 e
  · obtain ⟨f, hf, e1⟩ := a.lin s t hs ht fun c hc => hC c (List.mem_append_left _ (List.mem_append_left _ hc))
    obtain ⟨g, hg, e2⟩ := b.lin s t hs ht fun c hc => hC c (List.mem_append_left _ (List.mem_append_right _ hc))
    have hcut := hC _ (List.mem_append_right _ (List.mem_singleton.mpr rfl))
    have key : ∀ u, s ≤ u → u ≤ t → (p + q * (u : Int) < 0 ↔ cutB p q s = true) := fun u h1 h2 => by
      rw [← cut_conv _ _ h1 h2 hcut]
      unfold cutB
      rw [decide_eq_true_iff]
    by_cases c : cutB p q s = true
    · refine ⟨f, List.mem_append_left _ hf, fun u h1 h2 => ?_⟩
      rw [h u (by omega), if_pos ((key u h1 h2).mpr c), e1 u h1 h2]
    · refine ⟨g, List.mem_append_right _ hg, fun u h1 h2 => ?_⟩
      rw [h u (by omega), if_neg (fun z => c ((key u h1 h2).mp z)), e2 u h1 h2]
theorem lvs_pos : ∀ e : Ex, 1 ≤ lvs e
  | .fig _ => Int.le_refl _
  | .reg _ => Int.le_refl _
  | .share _ => Int.le_refl _
  | .two .sum a b => by
    have := Int.mul_le_mul (lvs_pos a) (lvs_pos b) (by decide) (by have := lvs_pos a; omega)
    exact this
  | .two .less a b => by
    have := Int.mul_le_mul (lvs_pos a) (lvs_pos b) (by decide) (by have := lvs_pos a; omega)
    exact this
  | .two .least a b => by
    have := lvs_pos a
    have := lvs_pos b
    show 1 ≤ lvs a + lvs b
    omega
  | .two .most a b => by
    have := lvs_pos a
    have := lvs_pos b
    show 1 ≤ lvs a + lvs b
    omega
  | .times _ a => lvs_pos a
  | .by _ a => lvs_pos a
  | .when _ _ a b => by
    have := lvs_pos a
    have := (le_mx (lvs a) (lvs b)).1
    show 1 ≤ mx (lvs a) (lvs b)
    omega
  | .whr _ _ a b => by
    have := lvs_pos a
    have := lvs_pos b
    show 1 ≤ lvs a + lvs b
    omega
theorem len_mul {m n : Nat} {x y : Int} (h1 : (m : Int) ≤ x) (h2 : (n : Int) ≤ y) : ((m * n : Nat) : Int) ≤ x * y := by
  rw [Int.natCast_mul]
  exact Int.mul_le_mul h1 h2 (by omega) (by omega)
theorem pl_ex {many N : Nat} {rs : List Int} {row : Nat → List Int} {T : Int} {c d : Nat → Int} (hT : ∀ t, t ≤ N → (row t).sum = T) (hj : ∀ j, j < many → ∀ t, t ≤ N → (row t).getD j 0 = c j + d j * (t : Int)) :
    ∀ e : Ex, ExOk many e → ∃ v F C, (∀ t, t ≤ N → v t = wo rs (row t) e) ∧ PL N v F C ∧ (F.length : Int) ≤ lvs e ∧ (C.length : Int) ≤ bds e
  | .fig k, _ => ⟨fun _ => k * T, [(k * T, 0)], [], fun t ht => by show _ = k * (row t).sum; rw [hT t ht], PL.one fun u _ => by rw [Int.zero_mul, Int.add_zero], Int.le_refl _, Int.le_refl _⟩
  | .reg i, _ => ⟨fun _ => rs.getD i 0 * T, [(rs.getD i 0 * T, 0)], [], fun t ht => by show _ = rs.getD i 0 * (row t).sum; rw [hT t ht], PL.one fun u _ => by rw [Int.zero_mul, Int.add_zero], Int.le_refl _, Int.le_refl _⟩
  | .share j, o => ⟨fun t => 1000 * (c j + d j * (t : Int)), [(1000 * c j, 1000 * d j)], [], fun t ht => by show _ = 1000 * (row t).getD j 0; rw [hj j o t ht], PL.one fun u _ => by grind, Int.le_refl _, Int.le_refl _⟩
  | .two .sum a b, ⟨oa, ob⟩ => by
    obtain ⟨v, F, C, e1, p1, l1, m1⟩ := pl_ex (rs := rs) hT hj a oa
    obtain ⟨w, G, D, e2, p2, l2, m2⟩ := pl_ex (rs := rs) hT hj b ob
    refine ⟨fun t => v t + 1 * w t, _, _, fun t ht => ?_, p1.lincomb p2 1 fun u => rfl, ?_, ?_⟩
    · show v t + 1 * w t = wo rs (row t) a + wo rs (row t) b
      rw [e1 t ht, e2 t ht, Int.one_mul]
    · rw [prs_len]
      exact len_mul l1 l2
    · rw [List.length_append, Int.natCast_add]
      exact Int.add_le_add m1 m2
  | .two .less a b, ⟨oa, ob⟩ => by
    obtain ⟨v, F, C, e1, p1, l1, m1⟩ := pl_ex (rs := rs) hT hj a oa
    obtain ⟨w, G, D, e2, p2, l2, m2⟩ := pl_ex (rs := rs) hT hj b ob
    refine ⟨fun t => v t + (-1) * w t, _, _, fun t ht => ?_, p1.lincomb p2 (-1) fun u => rfl, ?_, ?_⟩
    · show v t + (-1) * w t = wo rs (row t) a - wo rs (row t) b
      have := e1 t ht
      have := e2 t ht
      omega
    · rw [prs_len]
      exact len_mul l1 l2
    · rw [List.length_append, Int.natCast_add]
      exact Int.add_le_add m1 m2
  | .two .least a b, ⟨oa, ob⟩ => by
    obtain ⟨v, F, C, e1, p1, l1, m1⟩ := pl_ex (rs := rs) hT hj a oa
    obtain ⟨w, G, D, e2, p2, l2, m2⟩ := pl_ex (rs := rs) hT hj b ob
    refine ⟨fun t => if w t < v t then w t else v t, _, _, fun t ht => ?_, p1.pick p2 1 fun u => ⟨fun h => if_pos (by omega), fun h => if_neg (by omega)⟩, ?_, ?_⟩
    · show (if w t < v t then w t else v t) = if wo rs (row t) b < wo rs (row t) a then wo rs (row t) b else wo rs (row t) a
      rw [e1 t ht, e2 t ht]
    · rw [List.length_append, Int.natCast_add]
      exact Int.add_le_add l1 l2
    · rw [List.length_append, List.length_append, prs_len, Int.natCast_add, Int.natCast_add]
      exact Int.add_le_add (Int.add_le_add m1 m2) (len_mul l1 l2)
  | .two .most a b, ⟨oa, ob⟩ => by
    obtain ⟨v, F, C, e1, p1, l1, m1⟩ := pl_ex (rs := rs) hT hj a oa
    obtain ⟨w, G, D, e2, p2, l2, m2⟩ := pl_ex (rs := rs) hT hj b ob
    refine ⟨fun t => if w t > v t then w t else v t, _, _, fun t ht => ?_, p1.pick p2 (-1) fun u => ⟨fun h => if_pos (by omega), fun h => if_neg (by omega)⟩, ?_, ?_⟩
    · show (if w t > v t then w t else v t) = if wo rs (row t) b > wo rs (row t) a then wo rs (row t) b else wo rs (row t) a
      rw [e1 t ht, e2 t ht]
    · rw [List.length_append, Int.natCast_add]
      exact Int.add_le_add l1 l2
    · rw [List.length_append, List.length_append, prs_len, Int.natCast_add, Int.natCast_add]
      exact Int.add_le_add (Int.add_le_add m1 m2) (len_mul l1 l2)
  | .times f a, ⟨_, oa⟩ => by
    obtain ⟨v, F, C, e1, p1, l1, m1⟩ := pl_ex (rs := rs) hT hj a oa
    refine ⟨fun t => f * v t, _, _, fun t ht => ?_, p1.scale f fun u => rfl, ?_, m1⟩
    · show f * v t = f * wo rs (row t) a
      rw [e1 t ht]
    · rw [List.length_map]
      exact l1
  | .by i a, ⟨_, oa⟩ => by
    obtain ⟨v, F, C, e1, p1, l1, m1⟩ := pl_ex (rs := rs) hT hj a oa
    refine ⟨fun t => rs.getD i 0 * v t, _, _, fun t ht => ?_, p1.scale (rs.getD i 0) fun u => rfl, ?_, m1⟩
    · show rs.getD i 0 * v t = rs.getD i 0 * wo rs (row t) a
      rw [e1 t ht]
    · rw [List.length_map]
      exact l1
  | .when i k a b, ⟨_, _, oa, ob⟩ => by
    have x1 := le_mx (lvs a) (lvs b)
    have x2 := le_mx (bds a) (bds b)
    by_cases h : rs.getD i 0 < k
    · obtain ⟨v, F, C, e1, p1, l1, m1⟩ := pl_ex (rs := rs) hT hj a oa
      refine ⟨v, F, C, fun t ht => ?_, p1, ?_, ?_⟩
      · show _ = if rs.getD i 0 < k then wo rs (row t) a else wo rs (row t) b
        rw [if_pos h, e1 t ht]
      · show _ ≤ mx (lvs a) (lvs b)
        omega
      · show _ ≤ mx (bds a) (bds b)
        omega
    · obtain ⟨v, F, C, e1, p1, l1, m1⟩ := pl_ex (rs := rs) hT hj b ob
      refine ⟨v, F, C, fun t ht => ?_, p1, ?_, ?_⟩
      · show _ = if rs.getD i 0 < k then wo rs (row t) a else wo rs (row t) b
        rw [if_neg h, e1 t ht]
      · show _ ≤ mx (lvs a) (lvs b)
        omega
      · show _ ≤ mx (bds a) (bds b)
        omega
  | .whr j k a b, ⟨o, _, oa, ob⟩ => by
    obtain ⟨v, F, C, e1, p1, l1, m1⟩ := pl_ex (rs := rs) hT hj a oa
    obtain ⟨w, G, D, e2, p2, l2, m2⟩ := pl_ex (rs := rs) hT hj b ob
    refine ⟨fun t => if (1000 * c j - k * T) + 1000 * d j * (t : Int) < 0 then v t else w t, _, _, fun t ht => ?_, p1.side p2 (1000 * c j - k * T) (1000 * d j) fun u _ => rfl, ?_, ?_⟩
    · show (if (1000 * c j - k * T) + 1000 * d j * (t : Int) < 0 then v t else w t) = if 1000 * (row t).getD j 0 < k * (row t).sum then wo rs (row t) a else wo rs (row t) b
      rw [hj j o t ht, hT t ht, e1 t ht, e2 t ht]
      have e : (1000 * c j - k * T + 1000 * d j * (t : Int) < 0) ↔ (1000 * (c j + d j * (t : Int)) < k * T) := by
        have : 1000 * (c j + d j * (t : Int)) = 1000 * c j + 1000 * d j * (t : Int) := by grind
        omega
      by_cases h : 1000 * (c j + d j * (t : Int)) < k * T
      · rw [if_pos h, if_pos (e.mpr h)]
      · rw [if_neg h, if_neg (fun z => h (e.mp z))]
    · rw [List.length_append, Int.natCast_add]
      exact Int.add_le_add l1 l2
    · rw [List.length_append, List.length_append, Int.natCast_add, Int.natCast_add]
      exact Int.add_le_add (Int.add_le_add m1 m2) (Int.le_refl _)
end NG

namespace NG
open PySem PySem.Spec PyProof.Rows L2
/-! ### counting places -/
theorem sum_add {α : Type} (f g : α → Nat) : ∀ C : List α, (C.map fun c => f c + g c).sum = (C.map f).sum + (C.map g).sum
  | [] => rfl
  | c :: C => by
    simp only [List.map_cons, List.sum_cons, sum_add f g C]
    omega
theorem sum_one {α : Type} {f : α → Nat} {c : α} : ∀ {C : List α}, c ∈ C → 1 ≤ f c → 1 ≤ (C.map f).sum
  | x :: C, h, h1 => by
    rw [List.map_cons, List.sum_cons]
    rcases List.mem_cons.mp h with rfl | h
    · omega
    · have := sum_one h h1
      omega
theorem filter_sum {α : Type} (p : Nat → Bool) (r : α → Nat → Bool) (C : List α) : ∀ L : List Nat, (∀ k ∈ L, p k = true → ∃ c ∈ C, r c k = true) → (L.filter p).length ≤ (C.map fun c => (L.filter (r c)).length).sum
  | [], _ => Nat.zero_le _
  | k :: L, h => by
    have ih := filter_sum p r C L fun x hx => h x (List.mem_cons_of_mem _ hx)
    have e : (C.map fun c => ((k :: L).filter (r c)).length) = C.map fun c => (if r c k = true then 1 else 0) + (L.filter (r c)).length := by
      apply List.map_congr_left
      intro c _
      by_cases hc : r c k = true
      · rw [List.filter_cons_of_pos hc, if_pos hc, List.length_cons]
        omega
      · rw [List.filter_cons_of_neg hc, if_neg hc]
        omega
    rw [e, sum_add]
    by_cases hp : p k = true
    · obtain ⟨c, hc, hr⟩ := h k (by simp) hp
      have := sum_one (f := fun c => if r c k = true then 1 else 0) hc (by show 1 ≤ (if r c k = true then 1 else 0); rw [if_pos hr]; exact Nat.le_refl _)
      rw [List.filter_cons_of_pos hp, List.length_cons]
      omega
    · rw [List.filter_cons_of_neg hp]
      omega
theorem sum_le_two {α : Type} {f : α → Nat} : ∀ {C : List α}, (∀ c ∈ C, f c ≤ 2) → (C.map f).sum ≤ 2 * C.length
  | [], _ => Nat.zero_le _
  | c :: C, h => by
    have := h c (by simp)
    have := sum_le_two (C := C) fun x hx => h x (List.mem_cons_of_mem _ hx)
    rw [List.map_cons, List.sum_cons, List.length_cons]
    omega
theorem range_lt : ∀ n : Nat, (List.range n).Pairwise (· < ·) := fun n => List.pairwise_lt_range
theorem two_cuts {N : Nat} {c : Nat → Bool} (hc : ∀ s u t, s ≤ u → u ≤ t → t ≤ N → c s = c t → c u = c s) : ((List.range (N - 1)).filter fun k => c k != c (k + 2)).length ≤ 2 := by
  have hp := (range_lt (N - 1)).filter fun k => c k != c (k + 2)
  have hm : ∀ k ∈ (List.range (N - 1)).filter (fun k => c k != c (k + 2)), k < N - 1 ∧ c k ≠ c (k + 2) := fun k hk => by
    obtain ⟨h1, h2⟩ := List.mem_filter.mp hk
    exact ⟨List.mem_range.mp h1, by simpa using h2⟩
  match he : (List.range (N - 1)).filter (fun k => c k != c (k + 2)) with
  | [] => exact Nat.zero_le _
  | [_] => exact Nat.le_succ _
  | [_, _] => exact Nat.le_refl _
  | x :: y :: z :: r =>
    rw [he] at hp hm
    have hxy : x < y := (List.pairwise_cons.mp hp).1 y (by simp)
    have hyz : y < z := (List.pairwise_cons.mp (List.pairwise_cons.mp hp).2).1 z (by simp)
    obtain ⟨hx1, hx2⟩ := hm x (by simp)
    obtain ⟨hz1, hz2⟩ := hm z (by simp)
    have a1 : c x ≠ c (z + 2) := fun e => hx2 (hc x (x + 2) (z + 2) (by omega) (by omega) (by omega) e).symm
    have a2 : c (x + 2) = c (z + 2) := by
      cases h1 : c x <;> cases h2 : c (x + 2) <;> cases h3 : c (z + 2) <;> simp_all
    have a3 := hc (x + 2) z (z + 2) (by omega) (by omega) (by omega) a2
    exact absurd (a3.trans a2) hz2
theorem one_cut {N : Nat} {c : Nat → Bool} (hc : ∀ s u t, s ≤ u → u ≤ t → t ≤ N → c s = c t → c u = c s) {x z : Nat} (hx : c x ≠ c (x + 1)) (hz : c z ≠ c (z + 1)) (hxz : x < z) (hN : z < N) : False := by
  have a1 : c x ≠ c (z + 1) := fun e => hx (hc x (x + 1) (z + 1) (by omega) (by omega) (by omega) e).symm
  have a2 : c (x + 1) = c (z + 1) := by
    cases h1 : c x <;> cases h2 : c (x + 1) <;> cases h3 : c (z + 1) <;> simp_all
  have a3 := hc (x + 1) z (z + 1) (by omega) (by omega) (by omega) a2
  exact hz (a3.trans a2)
def bentI (v : Nat → Int) (N : Nat) : List Nat := (List.range (N - 1)).filter fun k => (v (k + 1) - v k) != (v (k + 2) - v (k + 1))
theorem bent_le {N : Nat} {v : Nat → Int} {F : List (Int × Int)} {C : List (Nat → Bool)} (p : PL N v F C) : (bentI v N).length ≤ 2 * C.length := by
  refine Nat.le_trans (filter_sum _ (fun (c : Nat → Bool) k => c k != c (k + 2)) C _ fun k hk hb => ?_) (sum_le_two fun c hc => two_cuts (p.conv c hc))
  have hk : k < N - 1 := List.mem_range.mp hk
  by_cases h : ∃ c ∈ C, (c k != c (k + 2)) = true
  · exact h
  · obtain ⟨f, _, e⟩ := p.lin k (k + 2) (by omega) (by omega) fun c hc => by
      by_cases hh : c k = c (k + 2)
      · exact hh
      · exact absurd ⟨c, hc, by simpa using hh⟩ h
    have e0 := e k (by omega) (by omega)
    have e1 := e (k + 1) (by omega) (by omega)
    have e2 := e (k + 2) (by omega) (by omega)
    have : v (k + 1) - v k = v (k + 2) - v (k + 1) := by
      rw [e0, e1, e2]
      push_cast
      grind
    simp [this] at hb
theorem len_sub : ∀ {ds L : List Int}, ds.Nodup → (∀ z ∈ ds, z ∈ L) → ds.length ≤ L.length
  | [], _, _, _ => Nat.zero_le _
  | d :: ds, L, hn, h => by
    obtain ⟨h1, h2⟩ := List.nodup_cons.mp hn
    have hd := h d (by simp)
    have := len_sub (ds := ds) (L := L.erase d) h2 fun z hz => by
      have hne : z ≠ d := fun e => h1 (e ▸ hz)
      exact (List.mem_erase_of_ne hne).mpr (h z (List.mem_cons_of_mem _ hz))
    rw [List.length_erase_of_mem hd] at this
    have := List.length_pos_of_mem hd
    rw [List.length_cons]
    omega
theorem gone_cuts {N : Nat} (v : Nat → Int) : ∀ {C : List (Nat → Bool)}, (∀ c ∈ C, ∀ s u t, s ≤ u → u ≤ t → t ≤ N → c s = c t → c u = c s) → ∃ G : List Int, G.length ≤ C.length ∧ ∀ c ∈ C, ∀ k, k < N → c k ≠ c (k + 1) → v (k + 1) - v k ∈ G
  | [], _ => ⟨[], Nat.le_refl _, fun c hc => (by cases hc)⟩
  | c :: C, h => by
    obtain ⟨G, hl, hG⟩ := gone_cuts v (C := C) fun x hx => h x (List.mem_cons_of_mem _ hx)
    by_cases hk : ∃ k, k < N ∧ c k ≠ c (k + 1)
    · obtain ⟨k, hkN, hck⟩ := hk
      refine ⟨(v (k + 1) - v k) :: G, by rw [List.length_cons, List.length_cons]; omega, fun x hx j hj hcj => ?_⟩
      rcases List.mem_cons.mp hx with rfl | hx
      · have : j = k := by
          rcases Nat.lt_trichotomy j k with z | z | z
          · exact (one_cut (h x (by simp)) hcj hck z hkN).elim
          · exact z
          · exact (one_cut (h x (by simp)) hck hcj z hj).elim
        rw [this]
        simp
      · exact List.mem_cons_of_mem _ (hG x hx j hj hcj)
    · refine ⟨G, by rw [List.length_cons]; omega, fun x hx j hj hcj => ?_⟩
      rcases List.mem_cons.mp hx with rfl | hx
      · exact absurd ⟨j, hj, hcj⟩ hk
      · exact hG x hx j hj hcj
theorem steps_le {N : Nat} {v : Nat → Int} {F : List (Int × Int)} {C : List (Nat → Bool)} (p : PL N v F C) {ds : List Int} (hn : ds.Nodup) (hd : ∀ z ∈ ds, ∃ k, k < N ∧ z = v (k + 1) - v k) : ds.length ≤ F.length + C.length := by
  obtain ⟨G, hl, hG⟩ := gone_cuts v p.conv
  have := len_sub (L := F.map (·.2) ++ G) hn fun z hz => by
    obtain ⟨k, hk, rfl⟩ := hd z hz
    by_cases h : ∃ c ∈ C, c k ≠ c (k + 1)
    · obtain ⟨c, hc, hck⟩ := h
      exact List.mem_append_right _ (hG c hc k hk hck)
    · obtain ⟨f, hf, e⟩ := p.lin k (k + 1) (by omega) (by omega) fun c hc => by
        by_cases hh : c k = c (k + 1)
        · exact hh
        · exact absurd ⟨c, hc, hh⟩ h
      have e0 := e k (by omega) (by omega)
      have e1 := e (k + 1) (by omega) (by omega)
      refine List.mem_append_left _ (List.mem_map.mpr ⟨f, hf, ?_⟩)
      rw [e0, e1]
      push_cast
      grind
  rw [List.length_append, List.length_map] at this
  omega

/-! ### the way between two shares -/
def wayR (a b : List Int) (N t : Nat) : List Int := List.zipWith (fun x y => x * b.sum * ((N : Int) - (t : Int)) + y * a.sum * (t : Int)) a b
theorem zip_lin (p q : Int) : ∀ a b : List Int, a.length = b.length → (List.zipWith (fun x y => x * p + y * q) a b).sum = a.sum * p + b.sum * q
  | [], [], _ => by simp
  | x :: a, y :: b, h => by
    rw [List.zipWith_cons_cons, List.sum_cons, List.sum_cons, List.sum_cons, zip_lin p q a b (by simpa using h)]
    grind
theorem way_sum {a b : List Int} (h : a.length = b.length) (N t : Nat) : (wayR a b N t).sum = a.sum * b.sum * (N : Int) := by
  unfold wayR
  have e : (fun x y => x * b.sum * ((N : Int) - (t : Int)) + y * a.sum * (t : Int)) = fun x y => x * (b.sum * ((N : Int) - (t : Int))) + y * (a.sum * (t : Int)) := by
    funext x y
    grind
  rw [e, zip_lin _ _ a b h]
  grind
theorem way_get {a b : List Int} (h : a.length = b.length) (N t : Nat) {j : Nat} (hj : j < a.length) : (wayR a b N t).getD j 0 = a.getD j 0 * b.sum * (N : Int) + (b.getD j 0 * a.sum - a.getD j 0 * b.sum) * (t : Int) := by
  unfold wayR
  have hb : j < b.length := by omega
  rw [List.getD_eq_getElem?_getD, List.getElem?_zipWith, List.getElem?_eq_getElem hj, List.getElem?_eq_getElem hb, List.getD_eq_getElem?_getD, List.getD_eq_getElem?_getD, List.getElem?_eq_getElem hj, List.getElem?_eq_getElem hb]
  show a[j] * b.sum * ((N : Int) - (t : Int)) + b[j] * a.sum * (t : Int) = a[j] * b.sum * (N : Int) + (b[j] * a.sum - a[j] * b.sum) * (t : Int)
  grind
theorem wo_scale {rs : List Int} {g : Int} (hg : 0 < g) (ss : List Int) : ∀ e : Ex, wo rs (ss.map (g * ·)) e = g * wo rs ss e := by
  have hs : ∀ ss : List Int, (ss.map (g * ·)).sum = g * ss.sum := fun ss => by
    induction ss with
    | nil => simp
    | cons x r ih => rw [List.map_cons, List.sum_cons, List.sum_cons, ih, Int.mul_add]
  have hgt : ∀ j : Nat, (ss.map (g * ·)).getD j 0 = g * ss.getD j 0 := fun j => by
    rw [List.getD_eq_getElem?_getD, List.getElem?_map, List.getD_eq_getElem?_getD]
    cases ss[j]? <;> simp
  have lt : ∀ x y : Int, g * x < g * y ↔ x < y := fun x y => Int.mul_lt_mul_left hg
  intro e
  induction e with
  | fig c => show c * (ss.map (g * ·)).sum = g * (c * ss.sum); rw [hs]; grind
  | reg i => show rs.getD i 0 * (ss.map (g * ·)).sum = g * (rs.getD i 0 * ss.sum); rw [hs]; grind
  | share j => show 1000 * (ss.map (g * ·)).getD j 0 = g * (1000 * ss.getD j 0); rw [hgt]; grind
  | two w a b iha ihb =>
    show jw w (wo rs (ss.map (g * ·)) a) (wo rs (ss.map (g * ·)) b) = g * jw w (wo rs ss a) (wo rs ss b)
    rw [iha, ihb]
    cases w
    · show g * _ + g * _ = g * (_ + _)
      rw [Int.mul_add]
    · show g * _ - g * _ = g * (_ - _)
      rw [Int.mul_sub]
    · show (if g * wo rs ss b < g * wo rs ss a then _ else _) = g * (if wo rs ss b < wo rs ss a then _ else _)
      by_cases h : wo rs ss b < wo rs ss a
      · rw [if_pos h, if_pos ((lt _ _).mpr h)]
      · rw [if_neg h, if_neg (fun z => h ((lt _ _).mp z))]
    · show (if g * wo rs ss b > g * wo rs ss a then _ else _) = g * (if wo rs ss b > wo rs ss a then _ else _)
      by_cases h : wo rs ss b > wo rs ss a
      · rw [if_pos h, if_pos ((lt _ _).mpr h)]
      · rw [if_neg h, if_neg (fun z => h ((lt _ _).mp z))]
  | times f a iha => show f * _ = g * (f * _); rw [iha]; grind
  | «by» i a iha => show rs.getD i 0 * _ = g * (rs.getD i 0 * _); rw [iha]; grind
  | when i c a b iha ihb =>
    show (if rs.getD i 0 < c then _ else _) = g * (if rs.getD i 0 < c then _ else _)
    by_cases h : rs.getD i 0 < c
    · rw [if_pos h, if_pos h, iha]
    · rw [if_neg h, if_neg h, ihb]
  | whr j c a b iha ihb =>
    show (if 1000 * (ss.map (g * ·)).getD j 0 < c * (ss.map (g * ·)).sum then _ else _) = g * (if 1000 * ss.getD j 0 < c * ss.sum then _ else _)
    rw [hgt, hs]
    have e : (1000 * (g * ss.getD j 0) < c * (g * ss.sum)) ↔ (1000 * ss.getD j 0 < c * ss.sum) := by
      rw [show 1000 * (g * ss.getD j 0) = g * (1000 * ss.getD j 0) by grind, show c * (g * ss.sum) = g * (c * ss.sum) by grind, lt]
    by_cases h : 1000 * ss.getD j 0 < c * ss.sum
    · rw [if_pos h, if_pos (e.mpr h), iha]
    · rw [if_neg h, if_neg (fun z => h (e.mp z)), ihb]
theorem low_back {ns : List Int} (h : ∀ x ∈ ns, 0 ≤ x) : (low ns).map (((gl ns : Nat) : Int) * ·) = ns := by
  unfold low
  rw [List.map_map]
  conv => rhs; rw [← List.map_id ns]
  apply List.map_congr_left
  intro x hx
  have hd : ((gl ns : Nat) : Int) ∣ x := by
    have := Int.natCast_dvd_natCast.mpr (gl_dvd hx)
    rwa [Int.toNat_of_nonneg (h x hx)] at this
  exact Int.mul_ediv_cancel' hd
theorem sum_scale (g : Int) : ∀ ss : List Int, (ss.map (g * ·)).sum = g * ss.sum
  | [] => by simp
  | x :: r => by rw [List.map_cons, List.sum_cons, List.sum_cons, sum_scale g r, Int.mul_add]
theorem low_worth {rs ns : List Int} {y : Int} (h : ∀ x ∈ ns, 0 ≤ x) (hy : y ∈ ns) (py : 0 < y) (hs : 0 < (low ns).sum) (e : Ex) : ns.sum / (low ns).sum * wo rs (low ns) e = wo rs ns e := by
  have hg : 0 < ((gl ns : Nat) : Int) := by have := gl_pos hy py; omega
  have e1 := low_back h
  have e2 : ns.sum = ((gl ns : Nat) : Int) * (low ns).sum := by
    conv => lhs; rw [← e1]
    exact sum_scale _ _
  rw [e2, Int.mul_ediv_cancel _ (by omega), ← wo_scale hg (low ns) e, e1]
end NG

namespace NG
open PySem PySem.Spec PyProof.Rows L2
def topS (i : Nat) : Stmt := PySem.Challenge.pw_nonegrowsrich_k07_whole_bends_along_a_wa.main.body.getD i (.Pass ⟨0, 0, 0, 0⟩)
abbrev s_parts : Stmt := topS 2
abbrev N_parts : List Str := ["expression", "shape", "kind", "item"]
theorem sc_parts : FnScope ["expression", "shape", "kind", "item"] ["expression"] (defScope s_parts) := ⟨rfl, rfl, rfl, by decide +kernel, rfl, by decide +kernel, by decide +kernel⟩
abbrev s_led_part : Stmt := topS 3
abbrev N_led_part : List Str := ["expression", "registers", "word", "place", "figure", "first", "second"]
theorem sc_led_part : FnScope ["expression", "registers", "word", "place", "figure", "first", "second"] ["expression", "registers"] (defScope s_led_part) := ⟨rfl, rfl, rfl, by decide +kernel, rfl, by decide +kernel, by decide +kernel⟩
abbrev s_side_part : Stmt := topS 4
abbrev N_side_part : List Str := ["expression", "shares", "word", "sign", "line", "first", "second"]
theorem sc_side_part : FnScope ["expression", "shares", "word", "sign", "line", "first", "second"] ["expression", "shares"] (defScope s_side_part) := ⟨rfl, rfl, rfl, by decide +kernel, rfl, by decide +kernel, by decide +kernel⟩
abbrev s_join_worths : Stmt := topS 5
abbrev N_join_worths : List Str := ["word", "first", "second"]
theorem sc_join_worths : FnScope ["word", "first", "second"] ["word", "first", "second"] (defScope s_join_worths) := ⟨rfl, rfl, rfl, by decide +kernel, rfl, by decide +kernel, by decide +kernel⟩
abbrev s_worth : Stmt := topS 6
abbrev N_worth : List Str := ["expression", "registers", "shares", "word", "first", "second"]
theorem sc_worth : FnScope ["expression", "registers", "shares", "word", "first", "second"] ["expression", "registers", "shares"] (defScope s_worth) := ⟨rfl, rfl, rfl, by decide +kernel, rfl, by decide +kernel, by decide +kernel⟩
abbrev s_leaves : Stmt := topS 7
abbrev N_leaves : List Str := ["expression", "counts", "part", "first", "second"]
theorem sc_leaves : FnScope ["expression", "counts", "part", "first", "second"] ["expression"] (defScope s_leaves) := ⟨rfl, rfl, rfl, by decide +kernel, rfl, by decide +kernel, by decide +kernel⟩
abbrev s_borders : Stmt := topS 8
abbrev N_borders : List Str := ["expression", "counts", "part", "word", "total", "first", "second"]
theorem sc_borders : FnScope ["expression", "counts", "part", "word", "total", "first", "second"] ["expression"] (defScope s_borders) := ⟨rfl, rfl, rfl, by decide +kernel, rfl, by decide +kernel, by decide +kernel⟩
abbrev s_L_hand : Stmt := topS 10
abbrev N_L_hand : List Str := ["_law_script", "_law_k", "_law_cell", "_law_great"]
theorem sc_L_hand : FnScope ["_law_script", "_law_k", "_law_cell", "_law_great"] ["_law_script", "_law_k"] (defScope s_L_hand) := ⟨rfl, rfl, rfl, by decide +kernel, rfl, by decide +kernel, by decide +kernel⟩
abbrev s_L_take : Stmt := topS 11
abbrev N_L_take : List Str := ["_law_hand_here", "_law_many", "_law_digit", "_law_primes", "_law_prime", "_law_drawn"]
theorem sc_L_take : FnScope ["_law_hand_here", "_law_many", "_law_digit", "_law_primes", "_law_prime", "_law_drawn"] ["_law_hand_here", "_law_many"] (defScope s_L_take) := ⟨rfl, rfl, rfl, by decide +kernel, rfl, by decide +kernel, by decide +kernel⟩
abbrev s_L_of : Stmt := topS 12
abbrev N_L_of : List Str := ["_law_hand_here", "_law_some"]
theorem sc_L_of : FnScope ["_law_hand_here", "_law_some"] ["_law_hand_here", "_law_some"] (defScope s_L_of) := ⟨rfl, rfl, rfl, by decide +kernel, rfl, by decide +kernel, by decide +kernel⟩
abbrev s_L_figure : Stmt := topS 13
abbrev N_L_figure : List Str := ["_law_hand_here", "_law_some"]
theorem sc_L_figure : FnScope ["_law_hand_here", "_law_some"] ["_law_hand_here"] (defScope s_L_figure) := ⟨rfl, rfl, rfl, by decide +kernel, rfl, by decide +kernel, by decide +kernel⟩
abbrev s_L_leaf : Stmt := topS 14
abbrev N_L_leaf : List Str := ["_law_hand_here", "_law_many", "_law_sort"]
theorem sc_L_leaf : FnScope ["_law_hand_here", "_law_many", "_law_sort"] ["_law_hand_here", "_law_many"] (defScope s_L_leaf) := ⟨rfl, rfl, rfl, by decide +kernel, rfl, by decide +kernel, by decide +kernel⟩
abbrev s_L_expression : Stmt := topS 15
abbrev N_L_expression : List Str := ["_law_hand_here", "_law_many", "_law_level", "_law_jumps", "_law_words", "_law_word", "_law_one", "_law_other", "_law_figure_here"]
theorem sc_L_expression : FnScope ["_law_hand_here", "_law_many", "_law_level", "_law_jumps", "_law_words", "_law_word", "_law_one", "_law_other", "_law_figure_here"] ["_law_hand_here", "_law_many", "_law_level", "_law_jumps"] (defScope s_L_expression) := ⟨rfl, rfl, rfl, by decide +kernel, rfl, by decide +kernel, by decide +kernel⟩
abbrev s_L_lowest : Stmt := topS 16
abbrev N_L_lowest : List Str := ["_law_row", "_law_by", "_law_number"]
theorem sc_L_lowest : FnScope ["_law_row", "_law_by", "_law_number"] ["_law_row"] (defScope s_L_lowest) := ⟨rfl, rfl, rfl, by decide +kernel, rfl, by decide +kernel, by decide +kernel⟩
abbrev s_L_registers : Stmt := topS 17
abbrev N_L_registers : List Str := ["_law_hand_here", "_law_turn"]
theorem sc_L_registers : FnScope ["_law_hand_here", "_law_turn"] ["_law_hand_here"] (defScope s_L_registers) := ⟨rfl, rfl, rfl, by decide +kernel, rfl, by decide +kernel, by decide +kernel⟩
abbrev s_L_few : Stmt := topS 18
abbrev N_L_few : List Str := ["_law_hand_here", "_law_many", "_law_row", "_law_turn"]
theorem sc_L_few : FnScope ["_law_hand_here", "_law_many", "_law_row", "_law_turn"] ["_law_hand_here", "_law_many"] (defScope s_L_few) := ⟨rfl, rfl, rfl, by decide +kernel, rfl, by decide +kernel, by decide +kernel⟩
abbrev s_L_values : Stmt := topS 19
abbrev N_L_values : List Str := ["_law_expression_here", "_law_registers_here", "_law_one", "_law_other", "_law_steps", "_law_total", "_law_found", "_law_turn", "_law_row", "_law_part", "_law_its", "_law_shares"]
theorem sc_L_values : FnScope ["_law_expression_here", "_law_registers_here", "_law_one", "_law_other", "_law_steps", "_law_total", "_law_found", "_law_turn", "_law_row", "_law_part", "_law_its", "_law_shares"] ["_law_expression_here", "_law_registers_here", "_law_one", "_law_other", "_law_steps"] (defScope s_L_values) := ⟨rfl, rfl, rfl, by decide +kernel, rfl, by decide +kernel, by decide +kernel⟩
abbrev s_L_right : Stmt := topS 20
abbrev N_L_right : List Str := ["_law_hand_here", "_law_many", "_law_expression_here", "_law_registers_here", "_law_one", "_law_other", "_law_steps", "_law_values_here", "_law_gone", "_law_ahead", "_law_later", "_law_bent", "_law_k", "_law_lines"]
theorem sc_L_right : FnScope ["_law_hand_here", "_law_many", "_law_expression_here", "_law_registers_here", "_law_one", "_law_other", "_law_steps", "_law_values_here", "_law_gone", "_law_ahead", "_law_later", "_law_bent", "_law_k", "_law_lines"] ["_law_hand_here", "_law_many"] (defScope s_L_right) := ⟨rfl, rfl, rfl, by decide +kernel, rfl, by decide +kernel, by decide +kernel⟩
abbrev s_law : Stmt := topS 21
abbrev N_law : List Str := ["_law_script", "_law_k", "_law_hand_here", "_law_turn"]
theorem sc_law : FnScope ["_law_script", "_law_k", "_law_hand_here", "_law_turn"] ["_law_script"] (defScope s_law) := ⟨rfl, rfl, rfl, by decide +kernel, rfl, by decide +kernel, by decide +kernel⟩

end NG

namespace NG
open PySem PySem.Spec PyProof.Rows L2
section
variable {P : Program} {w : World} {K : PySem.W.Frag} {mg : Str → Option Value} {base : Heap}
theorem primes_at {m : Int} (h : 0 ≤ m) : ∃ p : Int, atI ([.int 2147483647, .int 2147483629, .int 2147483587, .int 2147483579, .int 2147483563, .int 2147483549, .int 2147483543, .int 2147483497] : List V) (m % 8) = some (.int p) ∧ 1000 < p ∧ p < 2147483648 := by
  have h1 : m % 8 = 0 ∨ m % 8 = 1 ∨ m % 8 = 2 ∨ m % 8 = 3 ∨ m % 8 = 4 ∨ m % 8 = 5 ∨ m % 8 = 6 ∨ m % 8 = 7 := by omega
  rcases h1 with e | e | e | e | e | e | e | e <;> rw [e] <;> exact ⟨_, rfl, by decide, by decide⟩
theorem ok_take {f : Addr} {fd : FuncData} (F : Fun K "_law_take" "_law_take" s_L_take f fd) (gF : mg "_law_take" = some (.ref f)) (b : Binds K fd ["_law_hand_here", "_law_many"] []) : Cal P w K mg base 1 "_law_take" spTake := by
  refine ⟨f, fd, _, F.ok sc_L_take (fun vs H Q E h => ?_) (fun cdv A outer s H vs Q E hr h => ?_), gF, F.kp, b⟩
  · obtain ⟨a, m, n, rfl, _⟩ := h
    rfl
  · obtain ⟨a, many, n, rfl, hm, hm2, ⟨g, sd, m, e, hg, hs, h0, hn⟩, hN, q⟩ := h
    refine ⟨_, (pss_cons (ps_if (pt_cmpR op_gt (pe_ix ix_list (pv 0) pe_int (fun _ _ => rfl)) pe_int (nomark _)) (pss_cons (ps_set (i := 2) sc_L_take.nd rfl (.inl rfl) (pe_op op_mod (pe_ix ix_list (pv 0) pe_int (fun _ _ => rfl)) (pv 1))) (pss_cons (ps_asg (pe_op op_fdivW (pe_ix ix_list (pv 0) pe_int (fun _ _ => rfl)) (pv 1)) (pg_sub (pv 0) pe_int set_list)) (pss_one (ps_ret (pv 2))))) pss_nil) (pss_cons (ps_asg (pe_op op_add (pe_ix ix_list (pv 0) pe_int (fun _ _ => rfl)) pe_int) (pg_sub (pv 0) pe_int set_list)) (pss_cons (ps_set (i := 3) sc_L_take.nd rfl (.inl rfl) (pe_lst (pa_cons pe_int (pa_cons pe_int (pa_cons pe_int (pa_cons pe_int (pa_cons pe_int (pa_cons pe_int (pa_cons pe_int (pa_cons pe_int pa_nil)))))))))) (pss_cons (ps_set (i := 4) sc_L_take.nd rfl (.inl rfl) (pe_ix ix_list (pv 3) (pe_op op_mod (pe_ix ix_list (pv 0) pe_int (fun _ _ => rfl)) pe_int) (fun _ _ => rfl))) (pss_cons (ps_set (i := 5) sc_L_take.nd rfl (.inl rfl) (pe_op op_add (pe_op op_mod (pe_op op_mod (pe_op op_add (pe_ix ix_list (pv 0) pe_int (fun _ _ => rfl)) (pe_op op_mul (pe_op op_mul pe_int (pe_ix ix_list (pv 0) pe_int (fun _ _ => rfl))) (pe_ix ix_list (pv 0) pe_int (fun _ _ => rfl)))) (pe_op op_pow (pv 4) pe_int)) (pv 4)) pe_int)) (pss_one (ps_ret (pe_op op_mod (pe_op op_fdiv (pe_op op_mod (pe_op op_mul (pv 5) (pe_op op_add (pe_op op_mod (pv 5) pe_int) (pe_ix ix_list (pv 0) pe_int (fun _ _ => rfl)))) (pv 4)) pe_int) (pv 1))))))))), ?_⟩
    refine ⟨.ref a, rfl, a, _, 0, .int g, rfl, rfl, SqL.of e, rfl, g, 0, rfl, rfl, _, rfl, iteD (fun c => ?_) (fun c => ?_)⟩
    · refine ⟨.ref a, rfl, a, _, 0, .int g, rfl, rfl, SqL.of e, rfl, .int many, rfl, g, many, rfl, rfl, hm, ?_⟩
      refine ⟨.ref a, rfl, a, _, 0, .int g, rfl, rfl, SqL.of e, rfl, .int many, rfl, g, many, rfl, rfl, wide_div (b := 62) hm (by omega) (by decide) (by decide), ?_⟩
      refine ⟨.ref a, rfl, a, _, 0, 0, rfl, rfl, e, rfl, ?_⟩
      refine ⟨.int (g % many), rfl, q _ _ But.put ?_ (Int.emod_nonneg _ (by omega)) (Int.emod_lt_of_pos _ hm)⟩
      exact ⟨g / many, sd, m, upd_same, Int.ediv_nonneg hg (by omega), hs, h0, by omega⟩
    · refine ⟨.ref a, rfl, a, _, 2, .int m, rfl, rfl, SqL.of e, rfl, m, 1, rfl, rfl, ?_⟩
      refine ⟨.ref a, rfl, a, _, 2, 2, rfl, rfl, e, rfl, ?_⟩
      have e1 : (upd H a (.lst [.int g, .int sd, .int (m + 1)])) a = some (.lst [.int g, .int sd, .int (m + 1)]) := upd_same
      refine ⟨by decide, fun p np => ?_⟩
      have npa : p ≠ a := (ne_of_none e1 np).symm
      obtain ⟨pr, hat, hp1, hp2⟩ := primes_at (m := m + 1) (by omega)
      have e2 : (upd (upd H a (.lst [.int g, .int sd, .int (m + 1)])) p (.lst [.int 2147483647, .int 2147483629, .int 2147483587, .int 2147483579, .int 2147483563, .int 2147483549, .int 2147483543, .int 2147483497])) a = some (.lst [.int g, .int sd, .int (m + 1)]) := by rw [upd_ne npa.symm]; exact e1
      have e3 : (upd (upd H a (.lst [.int g, .int sd, .int (m + 1)])) p (.lst [.int 2147483647, .int 2147483629, .int 2147483587, .int 2147483579, .int 2147483563, .int 2147483549, .int 2147483543, .int 2147483497])) p = some (.lst [.int 2147483647, .int 2147483629, .int 2147483587, .int 2147483579, .int 2147483563, .int 2147483549, .int 2147483543, .int 2147483497]) := upd_same
      refine ⟨.ref p, rfl, .ref a, rfl, a, _, 2, .int (m + 1), rfl, rfl, SqL.of e2, rfl, m + 1, 8, rfl, rfl, (by show (0 : Int) < 8; decide), p, _, (m + 1) % 8, .int pr, rfl, rfl, SqL.of e3, hat, ?_⟩
      have hsq : (0 : Int) < pr ^ (2 : Int).toNat := by
        show 0 < pr ^ 2
        exact Int.pow_pos (by omega)
      refine ⟨.ref a, rfl, a, _, 1, .int sd, rfl, rfl, SqL.of e2, rfl, .ref a, rfl, a, _, 2, .int (m + 1), rfl, rfl, SqL.of e2, rfl, 69621, m + 1, rfl, rfl, .inl ⟨by decide, by decide⟩, .ref a, rfl, a, _, 2, .int (m + 1), rfl, rfl, SqL.of e2, rfl, _, _, rfl, rfl, .inr ⟨by omega, by omega⟩, _, _, rfl, rfl,
        .int pr, rfl, pr, 2, rfl, rfl, ⟨by decide, by decide, by omega⟩, _, _, rfl, rfl, hsq, .int pr, rfl, _, pr, rfl, rfl, (by show 0 < pr; omega), _, 1, rfl, rfl, ?_⟩
      generalize hz : (sd + 69621 * (m + 1) * (m + 1)) % pr ^ (2 : Int).toNat % pr = z
      have hz0 : 0 ≤ z := by rw [← hz]; exact Int.emod_nonneg _ (by omega)
      have hz1 : z < pr := by rw [← hz]; exact Int.emod_lt_of_pos _ (by omega)
      refine ⟨.int (z + 1), rfl, .int (z + 1), rfl, z + 1, 1009, rfl, rfl, (by show (0 : Int) < 1009; decide), .ref a, rfl, a, _, 2, .int (m + 1), rfl, rfl, SqL.of e2, rfl, _, _, rfl, rfl, z + 1, _, rfl, rfl, .inl ⟨by omega, by omega⟩, .int pr, rfl, _, pr, rfl, rfl, (by show 0 < pr; omega), _, 7, rfl, rfl, ⟨by decide, by decide⟩, .int many, rfl, _, many, rfl, rfl, hm, ?_⟩
      refine q _ _ ?_ ⟨g, sd, m + 1, e2, hg, hs, by omega, by omega⟩ (Int.emod_nonneg _ (by omega)) (Int.emod_lt_of_pos _ hm)
      exact But.put.trans (But.new np)
end
end NG

namespace NG
open PySem PySem.Spec PyProof.Rows L2
section
variable {P : Program} {w : World} {K : PySem.W.Frag} {mg : Str → Option Value} {base : Heap}
theorem ok_hand {f : Addr} {fd : FuncData} (F : Fun K "_law_hand" "_law_hand" s_L_hand f fd) (gF : mg "_law_hand" = some (.ref f)) (b : Binds K fd ["_law_script", "_law_k"] []) (B : Bl mg) : Cal P w K mg base 1 "_law_hand" (spHand K) := by
  refine ⟨f, fd, _, F.ok sc_L_hand (fun vs H Q E h => ?_) (fun cdv A outer s H vs Q E hr h => ?_), gF, F.kp, b⟩
  · obtain ⟨a, m, n, rfl, _⟩ := h
    rfl
  · obtain ⟨a, k, ns, rfl, hk0, hk1, hS, q⟩ := h
    refine ⟨_, (pss_cons (ps_set (i := 2) sc_L_hand.nd rfl (.inl rfl) (pe_cut (pe_ifExp (pt_cmpR op_lt (pv 1) (pe_callB call_len_seq (by rfl) B.len PySem.boot_len (pa_cons (pv 0) pa_nil)) (nomark _)) (pe_ix ix_list (pv 0) (pv 1) (fun _ _ => rfl)) pe_int))) (pss_cons (ps_set (i := 3) sc_L_hand.nd rfl (.inl rfl) (pe_op op_mul (pe_op op_mod (pe_callB call_abs (by rfl) B.abs (by decide +kernel) (pa_cons (pv 2) pa_nil)) (pe_op op_mulW (pe_op op_pow pe_int pe_int) (pe_op op_pow pe_int pe_int))) (pe_callTy call_int1 (by rfl) B.int (by decide +kernel) (pa_cons (pe_cmpR op_ge (pe_callB call_abs (by rfl) B.abs (by decide +kernel) (pa_cons (pv 2) pa_nil)) (pe_op op_pow pe_int pe_int) (nomark _)) pa_nil)))) (pss_one (ps_ret (pe_lst (pa_cons (pv 3) (pa_cons (pe_op op_add (pe_op op_add (pe_op op_mod (pv 2) pe_int) (pe_op op_mul pe_int (pv 1))) pe_int) (pa_cons pe_int pa_nil)))))))), ?_⟩
    refine ⟨fun v H' => H' = H ∧ ∃ c : Int, v = .int c, ?_, fun v H' hv => ?_⟩
    · refine ⟨.int k, rfl, .ref a, rfl, a, _, rfl, .inl hS, k, _, rfl, rfl, _, rfl, iteD (fun c => ?_) (fun c => ?_)⟩
      · exact ⟨.ref a, rfl, .int k, rfl, a, _, k, _, rfl, rfl, hS, at_int hk0 (by rw [List.length_map] at c; exact c), rfl, _, rfl⟩
      · exact ⟨rfl, 0, rfl⟩
    · obtain ⟨rfl, c, rfl⟩ := hv
      refine ⟨.int c, rfl, c, rfl, 10, 60, rfl, rfl, ⟨by decide, by decide, by decide⟩, 10, 60, rfl, rfl, ⟨by decide, by decide, by decide⟩, _, _, rfl, rfl, wide_mul (a := 300) (b := 300) (by decide) (by decide) (by decide) (by decide) (by decide), _, _, rfl, rfl, (by show (0 : Int) < 10 ^ 60 * 10 ^ 60; decide), ?_⟩
      refine ⟨.int c, rfl, c, rfl, 10, 18, rfl, rfl, ⟨by decide, by decide, by decide⟩, _, _, rfl, rfl, .inr ⟨_, rfl, ?_⟩⟩
      have h01 : ∀ z : Bool, (0 : Int) ≤ (if z = true then 1 else 0) ∧ (if z = true then (1 : Int) else 0) ≤ 1 := by
        intro z
        cases z <;> decide
      refine ⟨_, _, rfl, rfl, .inr ⟨by have := h01 (decide ((10 : Int) ^ (18 : Int).toNat ≤ if c < 0 then -c else c)); omega, by have := h01 (decide ((10 : Int) ^ (18 : Int).toNat ≤ if c < 0 then -c else c)); omega⟩, ?_⟩
      refine ⟨_, rfl, .int c, rfl, c, 2305843009213693951, rfl, rfl, (by show (0 : Int) < 2305843009213693951; decide), .int k, rfl, 104729, k, rfl, rfl, .inl ⟨by decide, by decide⟩, _, _, rfl, rfl, _, 7, rfl, rfl, (by show 3 ≤ sizeLine; decide), fun p np => ?_⟩
      refine q p _ _ np (Int.mul_nonneg (Int.emod_nonneg _ (by show (10 : Int) ^ 60 * 10 ^ 60 ≠ 0; decide)) (h01 _).1) ?_
      have : 0 ≤ c % 2305843009213693951 := Int.emod_nonneg _ (by decide)
      omega
theorem ok_of {f : Addr} {fd : FuncData} (F : Fun K "_law_of" "_law_of" s_L_of f fd) (gF : mg "_law_of" = some (.ref f)) (b : Binds K fd ["_law_hand_here", "_law_some"] []) (B : Bl mg) (c_L_take : Cal P w K mg base 1 "_law_take" spTake) : Cal P w K mg base 2 "_law_of" (spOf K) := by
  refine ⟨f, fd, _, F.ok sc_L_of (fun vs H Q E h => ?_) (fun cdv A outer s H vs Q E hr h => ?_), gF, F.kp, b⟩
  · obtain ⟨a, m, n, _, rfl, _⟩ := h
    rfl
  · obtain ⟨a, l, xs, n, rfl, hal, hl, h0, h1, hh, hn, q⟩ := h
    refine ⟨_, (pss_one (ps_ret (pe_ix ix_list (pv 1) (pe_c c_L_take hr (by omega) (by rfl) (pa_cons (pv 0) (pa_cons (pe_callB call_len_seq (by rfl) B.len PySem.boot_len (pa_cons (pv 1) pa_nil)) pa_nil))) (fun _ _ => rfl)))), ?_⟩
    refine ⟨.ref l, rfl, .ref a, rfl, .ref l, rfl, l, _, rfl, .inl (SqL.of hl), ?_⟩
    refine ⟨a, _, n, rfl, by omega, by omega, hh, hn, fun H' r bt hh' r0 r1 => ?_⟩
    have hl' : H' l = some (.lst xs) := bt _ _ (Ne.symm hal) hl
    obtain ⟨v, hv, hm⟩ := at_mem (xs := xs) r0 r1
    exact ⟨l, _, r, v, rfl, rfl, SqL.of hl', hv, q _ _ bt hh' hm⟩
theorem ok_figure {f : Addr} {fd : FuncData} (F : Fun K "_law_figure" "_law_figure" s_L_figure f fd) (gF : mg "_law_figure" = some (.ref f)) (b : Binds K fd ["_law_hand_here"] []) (B : Bl mg) (c_L_take : Cal P w K mg base 1 "_law_take" spTake) (c_L_of : Cal P w K mg base 2 "_law_of" (spOf K)) : Cal P w K mg base 3 "_law_figure" spFigure := by
  refine ⟨f, fd, _, F.ok sc_L_figure (fun vs H Q E h => ?_) (fun cdv A outer s H vs Q E hr h => ?_), gF, F.kp, b⟩
  · obtain ⟨a, m, rfl, _⟩ := h
    rfl
  · obtain ⟨a, n, rfl, hh, hn, q⟩ := h
    refine ⟨_, (pss_cons (ps_set (i := 1) sc_L_figure.nd rfl (.inl rfl) (pe_lst (pa_cons pe_int (pa_cons pe_int (pa_cons (pe_un un_neg pe_int) (pa_cons pe_int (pa_cons pe_int (pa_cons pe_int (pa_cons pe_int (pa_cons (pe_un un_neg pe_int) (pa_cons pe_int (pa_cons (pe_un un_neg pe_int) pa_nil)))))))))))) (pss_one (ps_ret (pe_c c_L_of hr (by omega) (by rfl) (pa_cons (pv 0) (pa_cons (pe_op op_cat (pv 1) (pe_lst (pa_cons (pe_op op_sub (pe_c c_L_take hr (by omega) (by rfl) (pa_cons (pv 0) (pa_cons pe_int pa_nil))) pe_int) (pa_cons (pe_op op_sub (pe_c c_L_take hr (by omega) (by rfl) (pa_cons (pv 0) (pa_cons pe_int pa_nil))) pe_int) pa_nil)))) pa_nil)))))), ?_⟩
    refine ⟨_, rfl, _, rfl, _, rfl, (by show 10 ≤ sizeLine; decide), fun l nl => ?_⟩
    have hla := hh.ne nl
    have hl : (upd H l (.lst [.int 0, .int 1, .int (-1), .int 50, .int 100, .int 250, .int 500, .int (-500), .int 1000, .int (-1000)])) l = _ := upd_same
    refine ⟨.ref a, rfl, .ref l, rfl, .ref a, rfl, a, 2001, n, rfl, by decide, by decide, hh.new nl, by omega, fun H1 r1 b1 hh1 r10 r11 => ⟨_, _, rfl, rfl, ?_⟩⟩
    refine ⟨.ref a, rfl, a, 201, n + 1, rfl, by decide, by decide, hh1, by omega, fun H2 r2 b2 hh2 r20 r21 => ⟨_, _, rfl, rfl, ?_⟩⟩
    refine ⟨(by show 2 ≤ sizeLine; decide), fun l2 nl2 => ?_⟩
    have hl2a := hh2.ne nl2
    have e1 : H2 l = some (.lst [.int 0, .int 1, .int (-1), .int 50, .int 100, .int 250, .int 500, .int (-500), .int 1000, .int (-1000)]) := b2 _ _ hla (b1 _ _ hla hl)
    refine ⟨l, l2, _, _, rfl, rfl, by rw [upd_ne (ne_of_none e1 nl2)]; exact e1, upd_same, (by show 12 ≤ sizeLine; decide), fun l3 nl3 => ?_⟩
    have hh3 := (hh2.new (o := .lst [.int (r1 - 1000), .int (r2 - 100)]) nl2)
    refine ⟨a, l3, _, n + 2, rfl, (hh3.ne nl3).symm, upd_same, (by show 0 < 12; decide), (by show 12 ≤ 1000; decide), hh3.new nl3, by omega, fun H4 v b4 hh4 hv => ?_⟩
    have bb : But a H H4 := (((((But.new nl).trans b1).trans b2).trans (But.new nl2)).trans (But.new nl3)).trans b4
    have key : ∃ c : Int, v = .int c ∧ -1000 ≤ c ∧ c ≤ 1000 := by
      simp only [List.cons_append, List.nil_append, List.mem_cons, List.not_mem_nil, or_false] at hv
      rcases hv with rfl | rfl | rfl | rfl | rfl | rfl | rfl | rfl | rfl | rfl | rfl | rfl
      all_goals exact ⟨_, rfl, by omega, by omega⟩
    obtain ⟨c, rfl, c0, c1⟩ := key
    exact q _ _ bb hh4 c0 c1
end
end NG

namespace NG
open PySem PySem.Spec PyProof.Rows L2
section
variable {P : Program} {w : World} {K : PySem.W.Frag} {mg : Str → Option Value} {base : Heap}
theorem ok_led {f : Addr} {fd : FuncData} (F : Fun K "led_part" "led_part" s_led_part f fd) (gF : mg "led_part" = some (.ref f)) (b : Binds K fd ["expression", "registers"] []) (B : Bl mg) : Cal P w K mg base 1 "led_part" (spLed K) := by
  refine ⟨f, fd, _, F.ok sc_led_part (fun vs H Q E h => ?_) (fun cdv A outer s H vs Q E hr h => ?_), gF, F.kp, b⟩
  · obtain ⟨_, _, _, _, _, _, _, rfl, _⟩ := h
    rfl
  · obtain ⟨p, _, x, y, i, c, rs, rfl, hp, hi, ⟨r, rfl, hr', hl, hb⟩, q⟩ := h
    refine ⟨_, (pss_cons (ps_asg (pv 0) (pg_tup rfl (pgs_cons (pg_name (i := 2) sc_led_part.nd rfl (.inl rfl)) (pgs_cons (pg_name (i := 3) sc_led_part.nd rfl (.inl rfl)) (pgs_cons (pg_name (i := 4) sc_led_part.nd rfl (.inl rfl)) (pgs_cons (pg_name (i := 5) sc_led_part.nd rfl (.inl rfl)) (pgs_cons (pg_name (i := 6) sc_led_part.nd rfl (.inl rfl)) pgs_nil))))))) (pss_one (ps_ret (pe_ifExp (pt_cmpR op_lt (pe_ix ix_tup (pv 1) (pv 3) (fun _ _ => rfl)) (pv 4) (nomark _)) (pv 5) (pv 6))))), ?_⟩
    refine ⟨.ref p, rfl, p, _, rfl, hp, rfl, _, _, rfl, _, _, rfl, _, _, rfl, _, _, rfl, _, _, rfl, rfl, ?_⟩
    refine ⟨.ref r, rfl, .int (i : Int), rfl, r, _, _, _, rfl, rfl, hr', at_nth (by omega), .int c, rfl, _, _, rfl, rfl, _, rfl, iteD (fun h => ?_) (fun h => ?_)⟩
    · rw [if_pos h] at q
      exact ⟨x, rfl, q⟩
    · rw [if_neg h] at q
      exact ⟨y, rfl, q⟩
theorem ok_side {f : Addr} {fd : FuncData} (F : Fun K "side_part" "side_part" s_side_part f fd) (gF : mg "side_part" = some (.ref f)) (b : Binds K fd ["expression", "shares"] []) (B : Bl mg) : Cal P w K mg base 1 "side_part" (spSide K) := by
  refine ⟨f, fd, _, F.ok sc_side_part (fun vs H Q E h => ?_) (fun cdv A outer s H vs Q E hr h => ?_), gF, F.kp, b⟩
  · obtain ⟨_, _, _, _, _, _, _, _, rfl, _⟩ := h
    rfl
  · obtain ⟨p, _, x, y, many, j, c, ss, rfl, hp, hj, hc, ⟨r, rfl, hr', hl, hb, h0, h1⟩, q⟩ := h
    refine ⟨_, (pss_cons (ps_asg (pv 0) (pg_tup rfl (pgs_cons (pg_name (i := 2) sc_side_part.nd rfl (.inl rfl)) (pgs_cons (pg_name (i := 3) sc_side_part.nd rfl (.inl rfl)) (pgs_cons (pg_name (i := 4) sc_side_part.nd rfl (.inl rfl)) (pgs_cons (pg_name (i := 5) sc_side_part.nd rfl (.inl rfl)) (pgs_cons (pg_name (i := 6) sc_side_part.nd rfl (.inl rfl)) pgs_nil))))))) (pss_one (ps_ret (pe_ifExp (pt_cmpR op_lt (pe_op op_mul pe_int (pe_ix ix_tup (pv 1) (pv 3) (fun _ _ => rfl))) (pe_op op_mul (pv 4) (pe_callB (cr_sumT rfl) (by rfl) B.sum (by decide +kernel) (pa_cons (pv 1) pa_nil))) (nomark _)) (pv 5) (pv 6))))), ?_⟩
    refine ⟨.ref p, rfl, p, _, rfl, hp, rfl, _, _, rfl, _, _, rfl, _, _, rfl, _, _, rfl, _, _, rfl, rfl, ?_⟩
    refine ⟨.ref r, rfl, .int (j : Int), rfl, r, _, _, _, rfl, rfl, hr', at_nth (by omega), 1000, _, rfl, rfl, .inl ⟨by decide, by decide⟩, .int c, rfl, .ref r, rfl, r, ss, rfl, hr', c, _, rfl, rfl, .inl ⟨by omega, by omega⟩, _, _, rfl, rfl, _, rfl, iteD (fun h => ?_) (fun h => ?_)⟩
    · rw [if_pos h] at q
      exact ⟨x, rfl, q⟩
    · rw [if_neg h] at q
      exact ⟨y, rfl, q⟩
theorem ok_joinW {f : Addr} {fd : FuncData} (F : Fun K "join_worths" "join_worths" s_join_worths f fd) (gF : mg "join_worths" = some (.ref f)) (b : Binds K fd ["word", "first", "second"] []) (B : Bl mg) : Cal P w K mg base 1 "join_worths" spJoinW := by
  refine ⟨f, fd, _, F.ok sc_join_worths (fun vs H Q E h => ?_) (fun cdv A outer s H vs Q E hr h => ?_), gF, F.kp, b⟩
  · obtain ⟨_, _, _, rfl, _⟩ := h
    rfl
  · obtain ⟨o, x, y, rfl, q⟩ := h
    refine ⟨_, (pss_cons (ps_if (pt_cmpR op_eq (pv 0) pe_str (nomark _)) (pss_one (ps_ret (pe_op op_add (pv 1) (pv 2)))) pss_nil) (pss_cons (ps_if (pt_cmpR op_eq (pv 0) pe_str (nomark _)) (pss_one (ps_ret (pe_op op_sub (pv 1) (pv 2)))) pss_nil) (pss_one (ps_ret (pe_ifExp (pt_cmpR op_eq (pv 0) pe_str (nomark _)) (pe_callB (call_min2 rfl) (by rfl) B.min (by decide +kernel) (pa_cons (pv 1) (pa_cons (pv 2) pa_nil))) (pe_callB (call_max2 rfl) (by rfl) B.max (by decide +kernel) (pa_cons (pv 1) (pa_cons (pv 2) pa_nil)))))))), ?_⟩
    refine ⟨_, rfl, rfl, _, rfl, ?_⟩
    cases o with
    | sum =>
      refine iteTT (by decide) ?_
      exact ⟨_, rfl, _, rfl, _, _, rfl, rfl, q⟩
    | less =>
      refine iteFF (by decide) ?_
      refine ⟨_, rfl, rfl, _, rfl, iteTT (by decide) ?_⟩
      exact ⟨_, rfl, _, rfl, _, _, rfl, rfl, q⟩
    | least =>
      refine iteFF (by decide) ?_
      refine ⟨_, rfl, rfl, _, rfl, iteFF (by decide) ?_⟩
      refine ⟨_, rfl, rfl, _, rfl, iteTT (by decide) ?_⟩
      exact ⟨_, rfl, _, rfl, _, _, rfl, q⟩
    | most =>
      refine iteFF (by decide) ?_
      refine ⟨_, rfl, rfl, _, rfl, iteFF (by decide) ?_⟩
      refine ⟨_, rfl, rfl, _, rfl, iteFF (by decide) ?_⟩
      exact ⟨_, rfl, _, rfl, _, _, rfl, q⟩
theorem wn_ne {o : W4} {s : Str} (h : s = "fig" ∨ s = "reg" ∨ s = "share" ∨ s = "times" ∨ s = "by" ∨ s = "when" ∨ s = "where") : decide (V.str (wn o) = V.str s) = false := by
  rcases h with rfl | rfl | rfl | rfl | rfl | rfl | rfl <;> cases o <;> decide
theorem fn_worth {f : Addr} {fd : FuncData} (F : Fun K "worth" "worth" s_worth f fd) (gF : mg "worth" = some (.ref f)) (b : Binds K fd ["expression", "registers", "shares"] []) (B : Bl mg) (c_led_part : Cal P w K mg base 1 "led_part" (spLed K)) (c_side_part : Cal P w K mg base 1 "side_part" (spSide K)) (c_join_worths : Cal P w K mg base 1 "join_worths" spJoinW) : ∀ n, FnOk P w K mg base CX0 (n + 2) f fd ["expression", "registers", "shares"] (spWorth K n) := by
  intro n
  induction n with
  | zero =>
    refine fn_never fun vs H Q E h => ?_
    obtain ⟨_, _, _, e, _, _, _, _, _, _, hd, _⟩ := h
    cases e <;> (unfold Ex.dep at hd; omega)
  | succ n ih =>
  have c_worth : Cal P w K mg base (n + 2) "worth" (spWorth K n) := ⟨f, fd, _, ih, gF, F.kp, b⟩
  refine F.ok sc_worth (fun vs H Q E h => ?_) (fun cdv A outer s H vs Q E hr h => ?_)
  · obtain ⟨_, _, _, _, _, _, _, rfl, _⟩ := h
    rfl
  · obtain ⟨v, _, _, e, many, rs, ss, rfl, he, ho, hd, hR, hS, q⟩ := h
    refine ⟨_, (pss_cons (ps_set (i := 3) sc_worth.nd rfl (.inl rfl) (pe_ix ix_tup (pv 0) pe_int (fun _ _ => rfl))) (pss_cons (ps_if (pt_cmpR op_eq (pv 3) pe_str (nomark _)) (pss_one (ps_ret (pe_op op_mul (pe_ix ix_tup (pv 0) pe_int (fun _ _ => rfl)) (pe_callB (cr_sumT rfl) (by rfl) B.sum (by decide +kernel) (pa_cons (pv 2) pa_nil))))) pss_nil) (pss_cons (ps_if (pt_cmpR op_eq (pv 3) pe_str (nomark _)) (pss_one (ps_ret (pe_op op_mul (pe_ix ix_tup (pv 1) (pe_ix ix_tup (pv 0) pe_int (fun _ _ => rfl)) (fun _ _ => rfl)) (pe_callB (cr_sumT rfl) (by rfl) B.sum (by decide +kernel) (pa_cons (pv 2) pa_nil))))) pss_nil) (pss_cons (ps_if (pt_cmpR op_eq (pv 3) pe_str (nomark _)) (pss_one (ps_ret (pe_op op_mul pe_int (pe_ix ix_tup (pv 2) (pe_ix ix_tup (pv 0) pe_int (fun _ _ => rfl)) (fun _ _ => rfl))))) pss_nil) (pss_cons (ps_if (pt_cmpR op_eq (pv 3) pe_str (nomark _)) (pss_one (ps_ret (pe_op op_mul (pe_ix ix_tup (pv 0) pe_int (fun _ _ => rfl)) (pe_c c_worth hr (by omega) (by rfl) (pa_cons (pe_ix ix_tup (pv 0) pe_int (fun _ _ => rfl)) (pa_cons (pv 1) (pa_cons (pv 2) pa_nil))))))) pss_nil) (pss_cons (ps_if (pt_cmpR op_eq (pv 3) pe_str (nomark _)) (pss_one (ps_ret (pe_op op_mul (pe_ix ix_tup (pv 1) (pe_ix ix_tup (pv 0) pe_int (fun _ _ => rfl)) (fun _ _ => rfl)) (pe_c c_worth hr (by omega) (by rfl) (pa_cons (pe_ix ix_tup (pv 0) pe_int (fun _ _ => rfl)) (pa_cons (pv 1) (pa_cons (pv 2) pa_nil))))))) pss_nil) (pss_cons (ps_if (pt_cmpR op_eq (pv 3) pe_str (nomark _)) (pss_one (ps_ret (pe_c c_worth hr (by omega) (by rfl) (pa_cons (pe_c c_led_part hr (by omega) (by rfl) (pa_cons (pv 0) (pa_cons (pv 1) pa_nil))) (pa_cons (pv 1) (pa_cons (pv 2) pa_nil)))))) pss_nil) (pss_cons (ps_if (pt_cmpR op_eq (pv 3) pe_str (nomark _)) (pss_one (ps_ret (pe_c c_worth hr (by omega) (by rfl) (pa_cons (pe_c c_side_part hr (by omega) (by rfl) (pa_cons (pv 0) (pa_cons (pv 2) pa_nil))) (pa_cons (pv 1) (pa_cons (pv 2) pa_nil)))))) pss_nil) (pss_cons (ps_set (i := 4) sc_worth.nd rfl (.inl rfl) (pe_c c_worth hr (by omega) (by rfl) (pa_cons (pe_ix ix_tup (pv 0) pe_int (fun _ _ => rfl)) (pa_cons (pv 1) (pa_cons (pv 2) pa_nil))))) (pss_cons (ps_set (i := 5) sc_worth.nd rfl (.inl rfl) (pe_c c_worth hr (by omega) (by rfl) (pa_cons (pe_ix ix_tup (pv 0) pe_int (fun _ _ => rfl)) (pa_cons (pv 1) (pa_cons (pv 2) pa_nil))))) (pss_one (ps_ret (pe_c c_join_worths hr (by omega) (by rfl) (pa_cons (pv 3) (pa_cons (pv 4) (pa_cons (pv 5) pa_nil)))))))))))))))), ?_⟩
    have hR0 := hR
    have hS0 := hS
    obtain ⟨r, rfl, hr1, hr2, hr3⟩ := hR
    obtain ⟨t, rfl, ht1, ht2, ht3, ht4, ht5⟩ := hS
    have rb : ∀ i, i < 4 → -1000 ≤ rs.getD i 0 ∧ rs.getD i 0 ≤ 1000 := fun i hi => hr3 _ (getD_mem (by omega))
    cases e with
    | fig c =>
      obtain ⟨p, rfl, hp⟩ := he
      obtain ⟨o1, o2⟩ := ho
      refine ⟨.ref p, rfl, p, _, 0, _, rfl, rfl, hp, rfl, ?_⟩
      refine ⟨_, rfl, rfl, _, rfl, iteTT (by decide) ?_⟩
      exact ⟨.ref p, rfl, p, _, 1, _, rfl, rfl, hp, rfl, .ref t, rfl, t, ss, rfl, ht1, c, _, rfl, rfl, .inl ⟨by omega, by omega⟩, q⟩
    | reg i =>
      obtain ⟨p, rfl, hp⟩ := he
      have ho : i < 4 := ho
      have := rb i ho
      refine ⟨.ref p, rfl, p, _, 0, _, rfl, rfl, hp, rfl, ?_⟩
      refine ⟨_, rfl, rfl, _, rfl, iteFF (by decide) ⟨_, rfl, rfl, _, rfl, iteTT (by decide) ?_⟩⟩
      exact ⟨.ref r, rfl, .ref p, rfl, p, _, 1, _, rfl, rfl, hp, rfl, r, _, _, _, rfl, rfl, hr1, at_nth (by omega), .ref t, rfl, t, ss, rfl, ht1, _, _, rfl, rfl, .inl ⟨by omega, by omega⟩, q⟩
    | share j =>
      obtain ⟨p, rfl, hp⟩ := he
      have ho : j < many := ho
      refine ⟨.ref p, rfl, p, _, 0, _, rfl, rfl, hp, rfl, ?_⟩
      refine ⟨_, rfl, rfl, _, rfl, iteFF (by decide) ⟨_, rfl, rfl, _, rfl, iteFF (by decide) ⟨_, rfl, rfl, _, rfl, iteTT (by decide) ?_⟩⟩⟩
      exact ⟨.ref t, rfl, .ref p, rfl, p, _, 1, _, rfl, rfl, hp, rfl, t, _, _, _, rfl, rfl, ht1, at_nth (by omega), 1000, _, rfl, rfl, .inl ⟨by decide, by decide⟩, q⟩
    | times fa a =>
      obtain ⟨p, x, rfl, hp, ha⟩ := he
      obtain ⟨⟨o1, o2⟩, oa⟩ := ho
      have hd : a.dep + 1 ≤ n + 1 := hd
      refine ⟨.ref p, rfl, p, _, 0, _, rfl, rfl, hp, rfl, ?_⟩
      refine ⟨_, rfl, rfl, _, rfl, iteFF (by decide) ⟨_, rfl, rfl, _, rfl, iteFF (by decide) ⟨_, rfl, rfl, _, rfl, iteFF (by decide) ⟨_, rfl, rfl, _, rfl, iteTT (by decide) ?_⟩⟩⟩⟩
      refine ⟨.ref p, rfl, p, _, 1, _, rfl, rfl, hp, rfl, .ref p, rfl, p, _, 2, _, rfl, rfl, hp, rfl, .ref r, rfl, .ref t, rfl, ?_⟩
      exact ⟨x, _, _, a, many, rs, ss, rfl, ha, oa, by omega, hR0, hS0, fa, _, rfl, rfl, .inl ⟨by omega, by omega⟩, q⟩
    | «by» i a =>
      obtain ⟨p, x, rfl, hp, ha⟩ := he
      obtain ⟨o1, oa⟩ := ho
      have := rb i o1
      have hd : a.dep + 1 ≤ n + 1 := hd
      refine ⟨.ref p, rfl, p, _, 0, _, rfl, rfl, hp, rfl, ?_⟩
      refine ⟨_, rfl, rfl, _, rfl, iteFF (by decide) ⟨_, rfl, rfl, _, rfl, iteFF (by decide) ⟨_, rfl, rfl, _, rfl, iteFF (by decide) ⟨_, rfl, rfl, _, rfl, iteFF (by decide) ⟨_, rfl, rfl, _, rfl, iteTT (by decide) ?_⟩⟩⟩⟩⟩
      refine ⟨.ref r, rfl, .ref p, rfl, p, _, 1, _, rfl, rfl, hp, rfl, r, _, _, _, rfl, rfl, hr1, at_nth (by omega), .ref p, rfl, p, _, 2, _, rfl, rfl, hp, rfl, .ref r, rfl, .ref t, rfl, ?_⟩
      exact ⟨x, _, _, a, many, rs, ss, rfl, ha, oa, by omega, hR0, hS0, _, _, rfl, rfl, .inl ⟨by omega, by omega⟩, q⟩
    | when i c x1 y1 =>
      obtain ⟨p, x, y, rfl, hp, ha, hb⟩ := he
      obtain ⟨o1, _, oa, ob⟩ := ho
      have hd : max x1.dep y1.dep + 1 ≤ n + 1 := hd
      refine ⟨.ref p, rfl, p, _, 0, _, rfl, rfl, hp, rfl, ?_⟩
      refine ⟨_, rfl, rfl, _, rfl, iteFF (by decide) ⟨_, rfl, rfl, _, rfl, iteFF (by decide) ⟨_, rfl, rfl, _, rfl, iteFF (by decide) ⟨_, rfl, rfl, _, rfl, iteFF (by decide) ⟨_, rfl, rfl, _, rfl, iteFF (by decide) ⟨_, rfl, rfl, _, rfl, iteTT (by decide) ?_⟩⟩⟩⟩⟩⟩
      refine ⟨.ref p, rfl, .ref r, rfl, p, _, x, y, i, c, rs, rfl, hp, o1, hR0, .ref r, rfl, .ref t, rfl, ?_⟩
      by_cases hc : rs.getD i 0 < c
      · rw [if_pos hc]
        refine ⟨x, _, _, x1, many, rs, ss, rfl, ha, oa, by omega, hR0, hS0, ?_⟩
        have q2 : Q (.int (if rs.getD i 0 < c then wo rs ss x1 else wo rs ss y1)) H := q
        rw [if_pos hc] at q2
        exact q2
      · rw [if_neg hc]
        refine ⟨y, _, _, y1, many, rs, ss, rfl, hb, ob, by omega, hR0, hS0, ?_⟩
        have q2 : Q (.int (if rs.getD i 0 < c then wo rs ss x1 else wo rs ss y1)) H := q
        rw [if_neg hc] at q2
        exact q2
    | whr j c x1 y1 =>
      obtain ⟨p, x, y, rfl, hp, ha, hb⟩ := he
      obtain ⟨o1, o2, oa, ob⟩ := ho
      have hd : max x1.dep y1.dep + 1 ≤ n + 1 := hd
      refine ⟨.ref p, rfl, p, _, 0, _, rfl, rfl, hp, rfl, ?_⟩
      refine ⟨_, rfl, rfl, _, rfl, iteFF (by decide) ⟨_, rfl, rfl, _, rfl, iteFF (by decide) ⟨_, rfl, rfl, _, rfl, iteFF (by decide) ⟨_, rfl, rfl, _, rfl, iteFF (by decide) ⟨_, rfl, rfl, _, rfl, iteFF (by decide) ⟨_, rfl, rfl, _, rfl, iteFF (by decide) ⟨_, rfl, rfl, _, rfl, iteTT (by decide) ?_⟩⟩⟩⟩⟩⟩⟩
      refine ⟨.ref p, rfl, .ref t, rfl, p, _, x, y, many, j, c, ss, rfl, hp, o1, o2, hS0, .ref r, rfl, .ref t, rfl, ?_⟩
      by_cases hc : 1000 * ss.getD j 0 < c * ss.sum
      · rw [if_pos hc]
        refine ⟨x, _, _, x1, many, rs, ss, rfl, ha, oa, by omega, hR0, hS0, ?_⟩
        have q2 : Q (.int (if 1000 * ss.getD j 0 < c * ss.sum then wo rs ss x1 else wo rs ss y1)) H := q
        rw [if_pos hc] at q2
        exact q2
      · rw [if_neg hc]
        refine ⟨y, _, _, y1, many, rs, ss, rfl, hb, ob, by omega, hR0, hS0, ?_⟩
        have q2 : Q (.int (if 1000 * ss.getD j 0 < c * ss.sum then wo rs ss x1 else wo rs ss y1)) H := q
        rw [if_neg hc] at q2
        exact q2
    | two o x1 y1 =>
      obtain ⟨p, x, y, rfl, hp, ha, hb⟩ := he
      obtain ⟨oa, ob⟩ := ho
      have hd : max x1.dep y1.dep + 1 ≤ n + 1 := hd
      refine ⟨.ref p, rfl, p, _, 0, _, rfl, rfl, hp, rfl, ?_⟩
      refine ⟨_, rfl, rfl, _, rfl, iteFF (wn_ne (by simp)) ⟨_, rfl, rfl, _, rfl, iteFF (wn_ne (by simp)) ⟨_, rfl, rfl, _, rfl, iteFF (wn_ne (by simp)) ⟨_, rfl, rfl, _, rfl, iteFF (wn_ne (by simp)) ⟨_, rfl, rfl, _, rfl, iteFF (wn_ne (by simp)) ⟨_, rfl, rfl, _, rfl, iteFF (wn_ne (by simp)) ⟨_, rfl, rfl, _, rfl, iteFF (wn_ne (by simp)) ?_⟩⟩⟩⟩⟩⟩⟩
      refine ⟨.ref p, rfl, p, _, 1, _, rfl, rfl, hp, rfl, .ref r, rfl, .ref t, rfl, x, _, _, x1, many, rs, ss, rfl, ha, oa, by omega, hR0, hS0, ?_⟩
      refine ⟨.ref p, rfl, p, _, 2, _, rfl, rfl, hp, rfl, .ref r, rfl, .ref t, rfl, y, _, _, y1, many, rs, ss, rfl, hb, ob, by omega, hR0, hS0, ?_⟩
      exact ⟨_, rfl, _, rfl, _, rfl, o, _, _, rfl, q⟩
theorem ok_worth {f : Addr} {fd : FuncData} (F : Fun K "worth" "worth" s_worth f fd) (gF : mg "worth" = some (.ref f)) (b : Binds K fd ["expression", "registers", "shares"] []) (B : Bl mg) (c_led_part : Cal P w K mg base 1 "led_part" (spLed K)) (c_side_part : Cal P w K mg base 1 "side_part" (spSide K)) (c_join_worths : Cal P w K mg base 1 "join_worths" spJoinW) : ∀ n, Cal P w K mg base (n + 2) "worth" (spWorth K n) := fun n => ⟨f, fd, _, fn_worth F gF b B c_led_part c_side_part c_join_worths n, gF, F.kp, b⟩
end
end NG

namespace NG
open PySem PySem.Spec PyProof.Rows L2
section
variable {P : Program} {w : World} {K : PySem.W.Frag} {mg : Str → Option Value} {base : Heap}
theorem ok_leaf {f : Addr} {fd : FuncData} (F : Fun K "_law_leaf" "_law_leaf" s_L_leaf f fd) (gF : mg "_law_leaf" = some (.ref f)) (b : Binds K fd ["_law_hand_here", "_law_many"] []) (B : Bl mg) (c_L_take : Cal P w K mg base 1 "_law_take" spTake) (c_L_figure : Cal P w K mg base 3 "_law_figure" spFigure) : Cal P w K mg base 4 "_law_leaf" (spLeaf K) := by
  refine ⟨f, fd, _, F.ok sc_L_leaf (fun vs H Q E h => ?_) (fun cdv A outer s H vs Q E hr h => ?_), gF, F.kp, b⟩
  · obtain ⟨_, _, _, rfl, _⟩ := h
    rfl
  · obtain ⟨a, many, n, rfl, hm1, hm2, hh, hn, q⟩ := h
    refine ⟨_, (pss_cons (ps_set (i := 2) sc_L_leaf.nd rfl (.inl rfl) (pe_c c_L_take hr (by omega) (by rfl) (pa_cons (pv 0) (pa_cons pe_int pa_nil)))) (pss_cons (ps_if (pt_cmpR op_eq (pv 2) pe_int (nomark _)) (pss_one (ps_ret (pe_tup (pa_cons pe_str (pa_cons (pe_c c_L_take hr (by omega) (by rfl) (pa_cons (pv 0) (pa_cons pe_int pa_nil))) pa_nil))))) pss_nil) (pss_one (ps_ret (pe_ifExp (pt_cmpR op_eq (pv 2) pe_int (nomark _)) (pe_tup (pa_cons pe_str (pa_cons (pe_c c_L_figure hr (by omega) (by rfl) (pa_cons (pv 0) pa_nil)) pa_nil))) (pe_tup (pa_cons pe_str (pa_cons (pe_c c_L_take hr (by omega) (by rfl) (pa_cons (pv 0) (pa_cons (pv 1) pa_nil))) pa_nil)))))))), ?_⟩
    refine ⟨.ref a, rfl, a, 4, n, rfl, by decide, by decide, hh, by omega, fun H1 r b1 hh1 r0 r1 => ?_⟩
    refine ⟨.int r, rfl, rfl, _, rfl, iteD (fun c => ?_) (fun c => ?_)⟩
    · refine ⟨.ref a, rfl, a, 4, n + 1, rfl, by decide, by decide, hh1, by omega, fun H2 r2 b2 hh2 r20 r21 => ⟨(by show 2 ≤ sizeLine; decide), fun p np => ?_⟩⟩
      refine q _ _ (.reg r2.toNat) ((b1.trans b2).trans (But.new np)) ((hh2.new np).le (by omega)) ⟨p, rfl, ?_⟩ (by show r2.toNat < 4; omega) (Nat.le_refl _)
      rw [Int.toNat_of_nonneg r20]
      exact SqT.of upd_same
    · refine ⟨.int r, rfl, rfl, _, rfl, iteD (fun c => ?_) (fun c => ?_)⟩
      · refine ⟨.ref a, rfl, a, n + 1, rfl, hh1, by omega, fun H2 r2 b2 hh2 r20 r21 => ⟨(by show 2 ≤ sizeLine; decide), fun p np => ?_⟩⟩
        exact q _ _ (.fig r2) ((b1.trans b2).trans (But.new np)) ((hh2.new np).le (by omega)) ⟨p, rfl, SqT.of upd_same⟩ ⟨r20, r21⟩ (Nat.le_refl _)
      · refine ⟨.ref a, rfl, .int (many : Int), rfl, a, _, n + 1, rfl, by omega, by omega, hh1, by omega, fun H2 r2 b2 hh2 r20 r21 => ⟨(by show 2 ≤ sizeLine; decide), fun p np => ?_⟩⟩
        refine q _ _ (.share r2.toNat) ((b1.trans b2).trans (But.new np)) ((hh2.new np).le (by omega)) ⟨p, rfl, ?_⟩ (by show r2.toNat < many; omega) (Nat.le_refl _)
        rw [Int.toNat_of_nonneg r20]
        exact SqT.of upd_same
def isW (s : Str) : Prop := s = "sum" ∨ s = "less" ∨ s = "least" ∨ s = "most" ∨ s = "times" ∨ s = "by" ∨ s = "when" ∨ s = "leaf" ∨ s = "where"
theorem ok_expr {f : Addr} {fd : FuncData} (F : Fun K "_law_expression" "_law_expression" s_L_expression f fd) (gF : mg "_law_expression" = some (.ref f)) (b : Binds K fd ["_law_hand_here", "_law_many", "_law_level", "_law_jumps"] []) (B : Bl mg) (c_L_take : Cal P w K mg base 1 "_law_take" spTake) (c_L_of : Cal P w K mg base 2 "_law_of" (spOf K)) (c_L_figure : Cal P w K mg base 3 "_law_figure" spFigure) (c_L_leaf : Cal P w K mg base 4 "_law_leaf" (spLeaf K)) : ∀ n, Cal P w K mg base (n + 4) "_law_expression" (spExpr K n) := by
  intro n
  induction n with
  | zero =>
    refine cal_never F gF b fun vs H Q E h => ?_
    obtain ⟨_, _, l, _, _, hl, _⟩ := h
    omega
  | succ n c_L_expression =>
  refine ⟨f, fd, _, F.ok sc_L_expression (fun vs H Q E h => ?_) (fun cdv A outer s H vs Q E hr h => ?_), gF, F.kp, b⟩
  · obtain ⟨_, _, _, _, rfl, _⟩ := h
    rfl
  · obtain ⟨a, many, l, k, rfl, hl, hm1, hm2, hh, hk, q⟩ := h
    refine ⟨_, (pss_cons (ps_set (i := 4) sc_L_expression.nd rfl (.inl rfl) (pe_lst (pa_cons pe_str (pa_cons pe_str (pa_cons pe_str (pa_cons pe_str (pa_cons pe_str (pa_cons pe_str (pa_cons pe_str (pa_cons pe_str (pa_cons pe_str (pa_cons pe_str pa_nil)))))))))))) (pss_cons (ps_set (i := 4) sc_L_expression.nd rfl (.inl rfl) (pe_op op_cat (pv 4) (pe_op op_rep (pe_lst (pa_cons pe_str (pa_cons pe_str pa_nil))) (pv 3)))) (pss_cons (ps_set (i := 5) sc_L_expression.nd rfl (.inl rfl) (pe_cut (pe_ifExp (pt_cmpR op_eq (pv 2) pe_int (nomark _)) pe_str (pe_c c_L_of hr (by omega) (by rfl) (pa_cons (pv 0) (pa_cons (pv 4) pa_nil)))))) (pss_cons (ps_if (pt_cmpR op_eq (pv 5) pe_str (nomark _)) (pss_one (ps_ret (pe_c c_L_leaf hr (by omega) (by rfl) (pa_cons (pv 0) (pa_cons (pv 1) pa_nil))))) pss_nil) (pss_cons (ps_set (i := 6) sc_L_expression.nd rfl (.inl rfl) (pe_c c_L_expression hr (by omega) (by rfl) (pa_cons (pv 0) (pa_cons (pv 1) (pa_cons (pe_op op_sub (pv 2) pe_int) (pa_cons (pv 3) pa_nil)))))) (pss_cons (ps_if (pt_cmpR op_eq (pv 5) pe_str (nomark _)) (pss_one (ps_ret (pe_tup (pa_cons (pv 5) (pa_cons (pe_op op_sub (pe_c c_L_take hr (by omega) (by rfl) (pa_cons (pv 0) (pa_cons pe_int pa_nil))) pe_int) (pa_cons (pv 6) pa_nil)))))) pss_nil) (pss_cons (ps_if (pt_cmpR op_eq (pv 5) pe_str (nomark _)) (pss_one (ps_ret (pe_tup (pa_cons (pv 5) (pa_cons (pe_c c_L_take hr (by omega) (by rfl) (pa_cons (pv 0) (pa_cons pe_int pa_nil))) (pa_cons (pv 6) pa_nil)))))) pss_nil) (pss_cons (ps_set (i := 7) sc_L_expression.nd rfl (.inl rfl) (pe_c c_L_expression hr (by omega) (by rfl) (pa_cons (pv 0) (pa_cons (pv 1) (pa_cons (pe_op op_sub (pv 2) pe_int) (pa_cons (pv 3) pa_nil)))))) (pss_cons (ps_if (pt_cmpR op_eq (pv 5) pe_str (nomark _)) (pss_one (ps_ret (pe_tup (pa_cons (pv 5) (pa_cons (pe_c c_L_take hr (by omega) (by rfl) (pa_cons (pv 0) (pa_cons pe_int pa_nil))) (pa_cons (pe_c c_L_figure hr (by omega) (by rfl) (pa_cons (pv 0) pa_nil)) (pa_cons (pv 6) (pa_cons (pv 7) pa_nil)))))))) pss_nil) (pss_cons (ps_if (pt_cmpR op_eq (pv 5) pe_str (nomark _)) (pss_cons (ps_set (i := 8) sc_L_expression.nd rfl (.inl rfl) (pe_c c_L_of hr (by omega) (by rfl) (pa_cons (pv 0) (pa_cons (pe_lst (pa_cons pe_int (pa_cons pe_int (pa_cons pe_int (pa_cons pe_int (pa_cons pe_int (pa_cons (pe_op op_add pe_int (pe_c c_L_take hr (by omega) (by rfl) (pa_cons (pv 0) (pa_cons pe_int pa_nil)))) pa_nil))))))) pa_nil)))) (pss_one (ps_ret (pe_tup (pa_cons (pv 5) (pa_cons (pe_c c_L_take hr (by omega) (by rfl) (pa_cons (pv 0) (pa_cons (pv 1) pa_nil))) (pa_cons (pv 8) (pa_cons (pv 6) (pa_cons (pv 7) pa_nil))))))))) pss_nil) (pss_one (ps_ret (pe_tup (pa_cons (pv 5) (pa_cons (pv 6) (pa_cons (pv 7) pa_nil)))))))))))))))), ?_⟩
    refine ⟨(by show 10 ≤ sizeLine; decide), fun p1 n1 => ?_⟩
    have hh1 := hh.new (o := .lst [.str "sum", .str "less", .str "least", .str "most", .str "least", .str "most", .str "times", .str "by", .str "when", .str "leaf"]) n1
    refine ⟨.ref p1, rfl, (by show 2 ≤ sizeLine; decide), fun p2 n2 => ?_⟩
    have e1 : (upd H p1 (.lst [.str "sum", .str "less", .str "least", .str "most", .str "least", .str "most", .str "times", .str "by", .str "when", .str "leaf"])) p1 = _ := upd_same
    have hh2 := hh1.new (o := .lst [.str "where", .str "where"]) n2
    refine ⟨.int 1, rfl, p2, 1, _, rfl, rfl, upd_same, by decide, by decide, (by show 2 * 1 ≤ sizeLine; decide), fun p3 n3 => ?_⟩
    have hh3 := hh2.new (o := .lst [.str "where", .str "where"]) n3
    have e2 : (upd (upd H p1 (.lst [.str "sum", .str "less", .str "least", .str "most", .str "least", .str "most", .str "times", .str "by", .str "when", .str "leaf"])) p2 (.lst [.str "where", .str "where"])) p1 = _ := (upd_ne (ne_of_none e1 n2)).trans e1
    refine ⟨p1, p3, _, _, rfl, rfl, (upd_ne (ne_of_none e2 n3)).trans e2, upd_same, (by show 12 ≤ sizeLine; decide), fun p4 n4 => ?_⟩
    have hh4 := hh3.new (o := .lst [.str "sum", .str "less", .str "least", .str "most", .str "least", .str "most", .str "times", .str "by", .str "when", .str "leaf", .str "where", .str "where"]) n4
    have b4 : But a H _ := (((But.new (a := a) n1).trans (But.new n2)).trans (But.new n3)).trans (But.new (o := .lst [.str "sum", .str "less", .str "least", .str "most", .str "least", .str "most", .str "times", .str "by", .str "when", .str "leaf", .str "where", .str "where"]) n4)
    have ne4 := hh3.ne n4
    -- the word
    refine ⟨fun v H' => But a H H' ∧ HandAt H' a (k + 1) ∧ ∃ s : Str, v = .str s ∧ isW s ∧ (l = 0 → s = "leaf"), ?_, fun v H5 hv => ?_⟩
    · refine ⟨.int (l : Int), rfl, rfl, _, rfl, iteD (fun c => ?_) (fun c => ?_)⟩
      · exact ⟨b4, hh4.le (by omega), _, rfl, by unfold isW; simp, fun _ => rfl⟩
      · refine ⟨.ref a, rfl, .ref p4, rfl, a, p4, _, k, rfl, ne4.symm, upd_same, (by show 0 < 12; decide), (by show 12 ≤ 1000; decide), hh4, by omega, fun H5 v b5 hh5 hv => ⟨b4.trans b5, hh5, ?_⟩⟩
        have hl0 : l ≠ 0 := fun z => c (by rw [z]; rfl)
        have key : ∃ s : Str, v = .str s ∧ isW s := by
          have hv : v ∈ ([.str "sum", .str "less", .str "least", .str "most", .str "least", .str "most", .str "times", .str "by", .str "when", .str "leaf", .str "where", .str "where"] : List V) := hv
          simp only [List.mem_cons, List.not_mem_nil, or_false] at hv
          rcases hv with rfl | rfl | rfl | rfl | rfl | rfl | rfl | rfl | rfl | rfl | rfl | rfl
          all_goals exact ⟨_, rfl, by unfold isW; simp⟩
        obtain ⟨s, rfl, hs⟩ := key
        exact ⟨s, rfl, hs, fun z => absurd z hl0⟩
    obtain ⟨b5, hh5, sw, rfl, hw, hl0⟩ := hv
    refine ⟨.str sw, rfl, rfl, _, rfl, iteD (fun c => ?_) (fun c => ?_)⟩
    · refine ⟨.ref a, rfl, .int (many : Int), rfl, a, many, k + 1, rfl, hm1, hm2, hh5, by have := cost_ge l; omega, fun H6 v e b6 hh6 he ho hd => ?_⟩
      exact q _ _ e (b5.trans b6) (hh6.le (by have := cost_ge l; omega)) he ho (by omega)
    · have hsl : sw ≠ "leaf" := fun z => c (by rw [z])
      obtain ⟨l', rfl⟩ : ∃ l', l = l' + 1 := by
        cases l with
        | zero => exact absurd (hl0 rfl) hsl
        | succ l' => exact ⟨l', rfl⟩
      have hcost : cost (l' + 1) = 2 * cost l' + 20 := rfl
      have elev : V.int (((l' + 1 : Nat) : Int) - 1) = V.int (l' : Int) := by
        congr 1
        omega
      refine ⟨.ref a, rfl, .int (many : Int), rfl, .int ((l' + 1 : Nat) : Int), rfl, _, 1, rfl, rfl, .int 1, rfl, a, many, l', k + 1, (by show [V.ref a, V.int (many : Int), V.int (((l' + 1 : Nat) : Int) - 1), V.int 1] = _; rw [elev]), by omega, hm1, hm2, hh5, by omega, fun H6 x e1 b6 hh6 he1 ho1 hd1 => ?_⟩
      have b06 := b5.trans b6
      -- times
      refine ⟨.str sw, rfl, rfl, _, rfl, iteD (fun c => ?_) (fun ct => ?_)⟩
      · have c : sw = "times" := V.str.inj c
        subst c
        refine ⟨_, rfl, .ref a, rfl, a, 19, _, rfl, by decide, by decide, hh6, by omega, fun H7 r b7 hh7 r0 r1 => ⟨_, 9, rfl, rfl, x, rfl, (by show 3 ≤ sizeLine; decide), fun p np => ?_⟩⟩
        exact q _ _ (.times (r - 9) e1) ((b06.trans b7).trans (But.new np)) ((hh7.new np).le (by omega)) ⟨p, x, rfl, SqT.of upd_same, (he1.but b7 hh6).new np⟩ ⟨⟨by omega, by omega⟩, ho1⟩ (by show e1.dep + 1 ≤ _; omega)
      -- by
      refine ⟨.str sw, rfl, rfl, _, rfl, iteD (fun c => ?_) (fun cb => ?_)⟩
      · have c : sw = "by" := V.str.inj c
        subst c
        refine ⟨_, rfl, .ref a, rfl, a, 4, _, rfl, by decide, by decide, hh6, by omega, fun H7 r b7 hh7 r0 r1 => ⟨x, rfl, (by show 3 ≤ sizeLine; decide), fun p np => ?_⟩⟩
        refine q _ _ (.by r.toNat e1) ((b06.trans b7).trans (But.new np)) ((hh7.new np).le (by omega)) ⟨p, x, rfl, ?_, (he1.but b7 hh6).new np⟩ ⟨by omega, ho1⟩ (by show e1.dep + 1 ≤ _; omega)
        rw [Int.toNat_of_nonneg r0]
        exact SqT.of upd_same
      -- the other part
      refine ⟨.ref a, rfl, .int (many : Int), rfl, .int ((l' + 1 : Nat) : Int), rfl, _, 1, rfl, rfl, .int 1, rfl, a, many, l', k + 1 + cost l', (by show [V.ref a, V.int (many : Int), V.int (((l' + 1 : Nat) : Int) - 1), V.int 1] = _; rw [elev]), by omega, hm1, hm2, hh6, by omega, fun H7 y e2 b7 hh7 he2 ho2 hd2 => ?_⟩
      have b07 := b06.trans b7
      have he1 := he1.but b7 hh6
      -- when
      refine ⟨.str sw, rfl, rfl, _, rfl, iteD (fun c => ?_) (fun cw => ?_)⟩
      · have c : sw = "when" := V.str.inj c
        subst c
        refine ⟨_, rfl, .ref a, rfl, a, 4, _, rfl, by decide, by decide, hh7, by omega, fun H8 r b8 hh8 r0 r1 => ⟨.ref a, rfl, a, _, rfl, hh8, by omega, fun H9 cc b9 hh9 c0 c1 => ⟨x, rfl, y, rfl, (by show 5 ≤ sizeLine; decide), fun p np => ?_⟩⟩⟩
        refine q _ _ (.when r.toNat cc e1 e2) (((b07.trans b8).trans b9).trans (But.new np)) ((hh9.new np).le (by omega)) ⟨p, x, y, rfl, ?_, ((he1.but b8 hh7).but b9 hh8).new np, ((he2.but b8 hh7).but b9 hh8).new np⟩ ⟨by omega, ⟨c0, c1⟩, ho1, ho2⟩ (by show max e1.dep e2.dep + 1 ≤ _; omega)
        rw [Int.toNat_of_nonneg r0]
        exact SqT.of upd_same
      -- where
      refine ⟨.str sw, rfl, rfl, _, rfl, iteD (fun c => ?_) (fun cr => ?_)⟩
      · have c : sw = "where" := V.str.inj c
        subst c
        refine ⟨.ref a, rfl, .ref a, rfl, a, 1000, _, rfl, by decide, by decide, hh7, by omega, fun H8 r b8 hh8 r0 r1 => ⟨1, _, rfl, rfl, (by show 6 ≤ sizeLine; decide), fun p5 n5 => ?_⟩⟩
        have hh9 := hh8.new (o := .lst [.int 1, .int 250, .int 333, .int 500, .int 1000, .int (1 + r)]) n5
        refine ⟨a, p5, _, _, rfl, (hh8.ne n5).symm, upd_same, (by show 0 < 6; decide), (by show 6 ≤ 1000; decide), hh9, by omega, fun H10 v b10 hh10 hv => ?_⟩
        have key : ∃ cc : Int, v = .int cc ∧ 1 ≤ cc ∧ cc ≤ 1000 := by
          have hv : v ∈ ([.int 1, .int 250, .int 333, .int 500, .int 1000, .int (1 + r)] : List V) := hv
          simp only [List.mem_cons, List.not_mem_nil, or_false] at hv
          rcases hv with rfl | rfl | rfl | rfl | rfl | rfl
          all_goals exact ⟨_, rfl, by omega, by omega⟩
        obtain ⟨cc, rfl, c0, c1⟩ := key
        refine ⟨_, rfl, .ref a, rfl, .int (many : Int), rfl, a, many, _, rfl, by omega, by omega, hh10, by omega, fun H11 j b11 hh11 j0 j1 => ⟨_, rfl, x, rfl, y, rfl, (by show 5 ≤ sizeLine; decide), fun p np => ?_⟩⟩
        refine q _ _ (.whr j.toNat cc e1 e2) (((((b07.trans b8).trans (But.new n5)).trans b10).trans b11).trans (But.new np)) ((hh11.new np).le (by omega)) ⟨p, x, y, rfl, ?_, ((((he1.but b8 hh7).new n5).but b10 hh9).but b11 hh10).new np, ((((he2.but b8 hh7).new n5).but b10 hh9).but b11 hh10).new np⟩ ⟨by omega, ⟨c0, c1⟩, ho1, ho2⟩ (by show max e1.dep e2.dep + 1 ≤ _; omega)
        rw [Int.toNat_of_nonneg j0]
        exact SqT.of upd_same
      -- the others
      refine ⟨_, rfl, x, rfl, y, rfl, (by show 3 ≤ sizeLine; decide), fun p np => ?_⟩
      have key : ∃ o : W4, sw = wn o := by
        rcases hw with rfl | rfl | rfl | rfl | rfl | rfl | rfl | rfl | rfl
        · exact ⟨.sum, rfl⟩
        · exact ⟨.less, rfl⟩
        · exact ⟨.least, rfl⟩
        · exact ⟨.most, rfl⟩
        · exact absurd rfl ct
        · exact absurd rfl cb
        · exact absurd rfl cw
        · exact absurd rfl hsl
        · exact absurd rfl cr
      obtain ⟨o, rfl⟩ := key
      exact q _ _ (.two o e1 e2) (b07.trans (But.new np)) ((hh7.new np).le (by omega)) ⟨p, x, y, rfl, SqT.of upd_same, he1.new np, he2.new np⟩ ⟨ho1, ho2⟩ (by show max e1.dep e2.dep + 1 ≤ _; omega)
end
end NG

namespace NG
open PySem PySem.Spec PyProof.Rows L2
section
variable {P : Program} {w : World} {K : PySem.W.Frag} {mg : Str → Option Value} {base : Heap}
def spLowE (K : PySem.W.Frag) : Sp := fun vs H Q _ => ∃ (p : Addr) (ns : List Int) (y : Int), vs = [.ref p] ∧ H p = some (.lst (ns.map V.int)) ∧ (∀ x ∈ ns, 0 ≤ x ∧ x < 2 ^ 50) ∧ ns.length ≤ 1000 ∧ y ∈ ns ∧ 0 < y ∧
  ∀ H' t, Same H H' → SqT K H' t ((low ns).map V.int) → Q (.ref t) H'
theorem ok_lowE {f : Addr} {fd : FuncData} (F : Fun K "_law_lowest" "_law_lowest" s_L_lowest f fd) (gF : mg "_law_lowest" = some (.ref f)) (b : Binds K fd ["_law_row"] []) (B : Bl mg) : Cal P w K mg base 1 "_law_lowest" (spLowE K) := by
  refine ⟨f, fd, _, F.ok sc_L_lowest (fun vs H Q E h => ?_) (fun cdv A outer s H vs Q E hr h => ?_), gF, F.kp, b⟩
  · obtain ⟨_, _, _, rfl, _⟩ := h
    rfl
  · obtain ⟨p, ns, y, rfl, hp, hb, hl, hy, py, q⟩ := h
    refine ⟨_, (pss_cons (ps_set (i := 1) sc_L_lowest.nd rfl (.inr rfl) pe_int) (pss_cons (ps_for PassesOwn.never rfl (pi_list (pv 0)) (pg_name (i := 2) sc_L_lowest.nd rfl (.inl rfl)) (pss_one (ps_while PassesOwn.never (pt_cmpR op_ne (pv 2) pe_int (nomark _)) (pss_one (ps_asg (pe_tup (pa_cons (pv 2) (pa_cons (pe_op op_mod (pv 1) (pv 2)) pa_nil))) (pg_tup rfl (pgs_cons (pg_name (i := 1) sc_L_lowest.nd rfl (.inr rfl)) (pgs_cons (pg_name (i := 2) sc_L_lowest.nd rfl (.inl rfl)) pgs_nil)))))))) (pss_one (ps_ret (pe_tupleOf (by rfl) B.tuple (pe_lc (own := [("_law_number", 2)]) rfl sc_L_lowest.nd (pi_list (pv 0)) (blkOk_by (N := N_L_lowest) (sc := defScope s_L_lowest) (by decide +kernel)) (fun _ _ _ _ _ => pg_name (i := 2) sc_L_lowest.nd rfl (.inl rfl)) (fun _ _ _ _ _ => pts_nil) (fun _ _ _ _ _ => pe_op op_fdivW (pv 2) (pv 1)))))))), ?_⟩
    refine ⟨.ref p, rfl, p, rfl, ⟨_, SqL.of hp⟩, for_list (xs := ns.map V.int) (fun i σ H' => ∃ y2, σ = [some (.ref p), some (.int (gl (ns.take i) : Int)), y2] ∧ Same H H') ⟨none, rfl, Same.refl _⟩ ?_ ?_ ?_⟩
    · rintro i σ H' hi ⟨y2, rfl, sm⟩
      exact SqL.of (sm _ _ hp)
    · rintro i x σ H' hx ⟨y2, rfl, sm⟩
      rw [List.getElem?_map] at hx
      cases hn : ns[i]? with
      | none => rw [hn] at hx; cases hx
      | some z =>
        rw [hn] at hx
        have ex : V.int z = x := Option.some.inj hx
        subst ex
        have hz := hb z (List.mem_of_getElem? hn)
        refine ⟨fun m σ H' => ∃ u : Nat, σ = [some (.ref p), some (.int (u : Int)), some (.int (m : Int))] ∧ Nat.gcd u m = gl (ns.take (i + 1)) ∧ Same H H', ⟨z.toNat, gl (ns.take i), ?_, (gl_step hn).symm, sm⟩, ?_⟩
        · show [some (.ref p), some (.int _), some (.int z)] = [some (V.ref p), _, _]
          rw [Int.toNat_of_nonneg hz.1]
        · rintro m σ H' ⟨u, rfl, hg, sm⟩
          refine ⟨.int (m : Int), rfl, rfl, _, rfl, ?_⟩
          by_cases h0 : m = 0
          · subst h0
            refine iteFF rfl ?_
            rw [Nat.gcd_zero_right] at hg
            rw [hg]
            exact ⟨_, rfl, sm⟩
          · have hne : ¬ V.int (m : Int) = V.int 0 := fun z => h0 (by have := V.int.inj z; omega)
            refine iteTT (by rw [decide_eq_false hne]; rfl) ?_
            refine ⟨fun σ' H' => ∃ u : Nat, σ' = [some (.ref p), some (.int (m : Int)), some (.int ((u % m : Nat) : Int))] ∧ Nat.gcd u m = gl (ns.take (i + 1)) ∧ Same H H', ?_, ?_⟩
            · rintro σ' H' ⟨u, rfl, hg, sm⟩
              exact ⟨u % m, Nat.mod_lt _ (by omega), m, rfl, by rw [gcd_turn]; exact hg, sm⟩
            · refine ⟨.int (m : Int), rfl, .int (u : Int), rfl, .int (m : Int), rfl, u, m, rfl, rfl, (by show (0 : Int) < m; omega), (by show 2 ≤ sizeLine; decide), fun t nt => ?_⟩
              exact ⟨t, _, rfl, SqT.of upd_same, rfl, _, _, rfl, _, _, rfl, rfl, u, rfl, hg, sm.trans (same_new nt)⟩
    · rintro σ H1 ⟨y2, rfl, sm⟩
      rw [List.length_map, List.take_length]
      have hg := gl_pos hy py
      refine ⟨.ref p, rfl, p, rfl, ⟨_, SqL.of (sm _ _ hp)⟩, fun D nD => lc_list (xs := ns.map V.int) (fun i H' => Same H H' ∧ H' D = some (.lst (((ns.take i).map fun x => x / (gl ns : Int)).map V.int))) ⟨sm.trans (same_new nD), upd_same⟩ (fun i H' _ h => SqL.of (h.1 _ _ hp)) ?_ ?_⟩
      · rintro i x H' hx ⟨sm', hD⟩
        rw [List.getElem?_map] at hx
        cases hn : ns[i]? with
        | none => rw [hn] at hx; cases hx
        | some z =>
          rw [hn] at hx
          have ex : V.int z = x := Option.some.inj hx
          subst ex
          have hgs : gl ns ≤ z.toNat ∨ z = 0 := by
            have hz := hb z (List.mem_of_getElem? hn)
            by_cases h0 : z = 0
            · exact .inr h0
            · exact .inl (Nat.le_of_dvd (by omega) (gl_dvd (List.mem_of_getElem? hn)))
          have hgy : gl ns ≤ y.toNat := Nat.le_of_dvd (by omega) (gl_dvd hy)
          have hyb := hb y hy
          refine ⟨rfl, tYes_in ?_⟩
          refine ⟨.int z, rfl, .int (gl ns : Int), rfl, z, (gl ns : Int), rfl, rfl, wide_div (b := 100) (by omega) (by omega) (by decide) (by decide), _, hD, ?_, ?_, ?_⟩
          · rw [List.length_map, List.length_map, List.length_take]
            exact small1000 (by omega)
          · exact fun b' o e => by
              rw [upd_ne (ne_of_none (sm _ _ e) nD)]
              exact sm' _ _ e
          · rw [upd_same, List.take_add_one, hn, List.map_append, List.map_append]
            rfl
      · rintro H' ⟨sm', hD⟩
        rw [List.length_map, List.take_length] at hD
        refine .inl ⟨D, _, rfl, SqL.of hD, fun t nt => ?_⟩
        exact q _ t (sm'.trans (same_new nt)) (SqT.of upd_same)
def spFew (K : PySem.W.Frag) : Sp := fun vs H Q _ => ∃ (a : Addr) (many n : Nat), vs = [.ref a, .int (many : Int)] ∧ 2 ≤ many ∧ many ≤ 3 ∧ HandAt H a n ∧ n ≤ 999998000 ∧
  ∀ H' p (ss : List Int), But a H H' → HandAt H' a (n + 4) → SqT K H' p (ss.map V.int) → ss.length = many → (∀ x ∈ ss, 0 ≤ x ∧ x ≤ 6) → 0 < ss.sum → Q (.ref p) H'
theorem ok_few {f : Addr} {fd : FuncData} (F : Fun K "_law_few" "_law_few" s_L_few f fd) (gF : mg "_law_few" = some (.ref f)) (b : Binds K fd ["_law_hand_here", "_law_many"] []) (B : Bl mg) (c_L_take : Cal P w K mg base 1 "_law_take" spTake) (c_L_lowest : Cal P w K mg base 1 "_law_lowest" (spLowE K)) : Cal P w K mg base 2 "_law_few" (spFew K) := by
  refine ⟨f, fd, _, F.ok sc_L_few (fun vs H Q E h => ?_) (fun cdv A outer s H vs Q E hr h => ?_), gF, F.kp, b⟩
  · obtain ⟨_, _, _, rfl, _⟩ := h
    rfl
  · obtain ⟨a, many, n, rfl, hm1, hm2, hh, hn, q⟩ := h
    refine ⟨_, (pss_cons (ps_setLc (i := 2) (own := [("_law_turn", 3)]) rfl sc_L_few.nd rfl rfl (sw_true rfl rfl rfl (by decide +kernel)) (pi_range1 rfl B.range (pa_cons (pv 1) pa_nil)) (blkOk_by (N := N_L_few) (sc := defScope s_L_few) (by decide +kernel)) (fun _ _ _ _ _ => pg_name (i := 3) sc_L_few.nd rfl (.inl rfl)) (fun _ _ _ _ _ => pts_nil) (fun _ _ _ _ _ => pe_c c_L_take hr (by omega) (by rfl) (pa_cons (pv 0) (pa_cons pe_int pa_nil)))) (C8.pss_cut (ps_if (pt_cmpR op_eq (pe_callB (cr_max rfl) (by rfl) B.max (by decide +kernel) (pa_cons (pv 2) pa_nil)) pe_int (nomark _)) (pss_one (ps_asg pe_int (pg_sub (pv 2) (pe_c c_L_take hr (by omega) (by rfl) (pa_cons (pv 0) (pa_cons (pv 1) pa_nil))) set_list))) pss_nil) (pss_one (ps_ret (pe_c c_L_lowest hr (by omega) (by rfl) (pa_cons (pv 2) pa_nil)))))), ?_⟩
    refine ⟨.int (many : Int), rfl, _, rfl, by omega, by omega, fun D nD => lc_range (n := ((many : Int)).toNat) (fun i H' => ∃ ns : List Int, But a H H' ∧ HandAt H' a (n + i) ∧ H' D = some (.lst (ns.map V.int)) ∧ ns.length = i ∧ ∀ x ∈ ns, 0 ≤ x ∧ x ≤ 6) ⟨[], But.new nD, hh.new nD, upd_same, rfl, fun x h => by cases h⟩ ?_ ?_⟩
    · rintro i H1 hi ⟨ns, b1, hh1, hD1, hlen, hb⟩
      have hi3 : i < 3 := by omega
      have hDa := hh.ne nD
      refine ⟨rfl, tYes_in ?_⟩
      refine ⟨.ref a, rfl, a, 7, _, rfl, by decide, by decide, hh1, by omega, fun H2 r b2 hh2 r0 r1 => ⟨_, b2 _ _ hDa hD1, ?_, ?_⟩⟩
      · rw [List.length_map]
        exact small1000 (by omega)
      · refine ⟨ns ++ [r], fun b' o nb e => ?_, (hh2.put hDa).le (by omega), ?_, ?_, ?_⟩
        · rw [upd_ne (ne_of_none e nD)]
          exact b2 _ _ nb (b1 _ _ nb e)
        · rw [upd_same, List.map_append]
          rfl
        · rw [List.length_append, hlen]
          rfl
        · intro x hx
          rcases List.mem_append.mp hx with hx | hx
          · exact hb x hx
          · rw [List.mem_singleton.mp hx]
            exact ⟨r0, by omega⟩
    · rintro H1 ⟨ns, b1, hh1, hD1, hlen, hb⟩
      have hlen : ns.length = many := by omega
      have hDa := hh.ne nD
      have hh1 : HandAt H1 a (n + 3) := hh1.le (by omega)
      refine ⟨fun σ H' => ∃ y3, ∃ ns : List Int, ∃ y : Int, σ = [some (.ref a), some (.int (many : Int)), some (.ref D), y3] ∧ But a H H' ∧ HandAt H' a (n + 4) ∧ H' D = some (.lst (ns.map V.int)) ∧ ns.length = many ∧ (∀ x ∈ ns, 0 ≤ x ∧ x ≤ 6) ∧ y ∈ ns ∧ 0 < y, ?_, ?_⟩
      · refine ⟨.ref D, rfl, D, ns, rfl, SqL.of hD1, by omega, fun m hm hmax => ⟨rfl, _, rfl, iteD (fun c => ?_) (fun c => ?_)⟩⟩
        · refine ⟨.ref D, rfl, .ref a, rfl, .int (many : Int), rfl, a, _, _, rfl, by omega, by omega, hh1, by omega, fun H2 r b2 hh2 r0 r1 => ?_⟩
          have e2 := b2 _ _ hDa hD1
          refine ⟨D, _, r, _, rfl, rfl, e2, ixN_of r0 (by rw [List.length_map]; omega), ?_⟩
          have hj : r.toNat < ns.length := by omega
          refine ⟨_, ns.set r.toNat 1, 1, rfl, fun b' o nb e => ?_, hh2.put hDa, ?_, ?_, fun x hx => ?_, ?_, by decide⟩
          · rw [upd_ne (ne_of_none e nD)]
            exact b2 _ _ nb (b1 _ _ nb e)
          · rw [upd_same, List.map_set]
          · rw [List.length_set]
            exact hlen
          · rcases List.mem_or_eq_of_mem_set hx with hx | rfl
            · exact hb x hx
            · exact ⟨by decide, by decide⟩
          · exact List.mem_iff_getElem.mpr ⟨r.toNat, by rw [List.length_set]; exact hj, List.getElem_set_self _⟩
        · have hm0 : m ≠ 0 := fun z => c (by rw [z])
          exact ⟨_, ns, m, rfl, b1, hh1.le (by omega), hD1, hlen, hb, hm, by have := hb m hm; omega⟩
      · rintro σ H2 ⟨y3, ns, y, rfl, b2, hh2, hl2, hlen, hb, hy, py⟩
        have hb5 : ∀ x ∈ ns, 0 ≤ x ∧ x < 2 ^ 50 := fun x hx => by have := hb x hx; omega
        refine ⟨.ref D, rfl, D, ns, y, rfl, hl2, hb5, by omega, hy, py, fun H3 t sm ht => ?_⟩
        obtain ⟨k1, k2, k3⟩ := low_sh hb5 (by omega) hy py
        obtain ⟨g, sd, m, e, z1, z2, z3, z4⟩ := hh2
        refine q _ t (low ns) (b2.trans (But.of sm)) ⟨g, sd, m, sm _ _ e, z1, z2, z3, by omega⟩ ht (by unfold low; rw [List.length_map]; exact hlen) (fun x hx => ⟨(k1 x hx).1, ?_⟩) k2
        obtain ⟨z, hz, rfl⟩ := List.mem_map.mp hx
        exact Int.le_trans (div_le_self' (hb z hz).1) (hb z hz).2
theorem ok_regs {f : Addr} {fd : FuncData} (F : Fun K "_law_registers" "_law_registers" s_L_registers f fd) (gF : mg "_law_registers" = some (.ref f)) (b : Binds K fd ["_law_hand_here"] []) (B : Bl mg) (c_L_figure : Cal P w K mg base 3 "_law_figure" spFigure) : Cal P w K mg base 4 "_law_registers" (spRegs K) := by
  refine ⟨f, fd, _, F.ok sc_L_registers (fun vs H Q E h => ?_) (fun cdv A outer s H vs Q E hr h => ?_), gF, F.kp, b⟩
  · obtain ⟨_, _, rfl, _⟩ := h
    rfl
  · obtain ⟨a, n, rfl, hh, hn, q⟩ := h
    refine ⟨_, (pss_one (ps_ret (pe_tupleOf (by rfl) B.tuple (pe_lc (own := [("_law_turn", 1)]) rfl sc_L_registers.nd (pi_range1 rfl B.range (pa_cons pe_int pa_nil)) (blkOk_by (N := N_L_registers) (sc := defScope s_L_registers) (by decide +kernel)) (fun _ _ _ _ _ => pg_name (i := 1) sc_L_registers.nd rfl (.inl rfl)) (fun _ _ _ _ _ => pts_nil) (fun _ _ _ _ _ => pe_c c_L_figure hr (by omega) (by rfl) (pa_cons (pv 0) pa_nil)))))), ?_⟩
    refine ⟨4, rfl, by decide, by decide, fun D nD => lc_range (n := (4 : Int).toNat) (fun i H' => ∃ rs : List Int, But a H H' ∧ HandAt H' a (n + 3 * i) ∧ H' D = some (.lst (rs.map V.int)) ∧ rs.length = i ∧ ∀ x ∈ rs, -1000 ≤ x ∧ x ≤ 1000) ⟨[], But.new nD, hh.new nD, upd_same, rfl, fun x h => by cases h⟩ ?_ ?_⟩
    · rintro i H1 hi ⟨rs, b1, hh1, hD, hlen, hb⟩
      have hi4 : i < 4 := hi
      have hDa := hh.ne nD
      refine ⟨rfl, tYes_in ?_⟩
      refine ⟨.ref a, rfl, a, _, rfl, hh1, by omega, fun H2 c b2 hh2 c0 c1 => ⟨_, b2 _ _ hDa hD, ?_, ?_⟩⟩
      · rw [List.length_map]
        exact small1000 (by omega)
      · refine ⟨rs ++ [c], fun b' o nb e => ?_, (hh2.put hDa).le (by omega), ?_, ?_, ?_⟩
        · rw [upd_ne (ne_of_none e nD)]
          exact b2 _ _ nb (b1 _ _ nb e)
        · rw [upd_same, List.map_append]
          rfl
        · rw [List.length_append, hlen]
          rfl
        · intro x hx
          rcases List.mem_append.mp hx with hx | hx
          · exact hb x hx
          · rw [List.mem_singleton.mp hx]
            exact ⟨c0, c1⟩
    · rintro H1 ⟨rs, b1, hh1, hD, hlen, hb⟩
      refine .inl ⟨D, _, rfl, SqL.of hD, fun t nt => ?_⟩
      exact q _ _ rs (b1.trans (But.new nt)) (hh1.new nt) ⟨t, rfl, SqT.of upd_same, hlen, hb⟩
end
end NG

namespace NG
open PySem PySem.Spec PyProof.Rows L2
section
variable {P : Program} {w : World} {K : PySem.W.Frag} {mg : Str → Option Value} {base : Heap}
theorem ok_parts {f a_SHAPES : Addr} {fd : FuncData} (F : Fun K "parts" "parts" s_parts f fd) (gF : mg "parts" = some (.ref f)) (b : Binds K fd ["expression"] []) (B : Bl mg) (mg_SHAPES : mg "SHAPES" = some (.ref a_SHAPES)) (hSh : Shapes K w a_SHAPES) : Cal P w K mg base 1 "parts" (spParts K) := by
  refine ⟨f, fd, _, F.ok sc_parts (fun vs H Q E h => ?_) (fun cdv A outer s H vs Q E hr h => ?_), gF, F.kp, b⟩
  · obtain ⟨_, _, rfl, _⟩ := h
    rfl
  · obtain ⟨v, e, rfl, he, q⟩ := h
    obtain ⟨p, xs, rfl, hp, hl, hl4, hl0, hrow⟩ := he.lies
    obtain ⟨sq, hkd, hsq⟩ := hSh e
    refine ⟨_, (pss_cons (ps_set (i := 1) sc_parts.nd rfl (.inl rfl) (pe_ix ix_kdict (pe_glob (v := .ref a_SHAPES) (by rfl) mg_SHAPES rfl) (pe_ix ix_tup (pv 0) pe_int (fun _ _ => rfl)) (fun _ _ => rfl))) (pss_one (ps_ret (pe_lc (own := [("kind", 2), ("item", 3)]) rfl sc_parts.nd (RZ.pi_zipA (by rfl) B.zip (pa_cons (pv 1) (pa_cons (pe_slice sl_tup (pv 0) (po_some pe_int) po_none) pa_nil))) (blkOk_by (N := N_parts) (sc := defScope s_parts) (by decide +kernel)) (fun _ _ _ _ _ => pgtK (n := 2) K rfl (pgs_cons (pg_name (i := 2) sc_parts.nd rfl (.inl rfl)) (pgs_cons (pg_name (i := 3) sc_parts.nd rfl (.inl rfl)) pgs_nil))) (fun _ _ _ _ _ => pts_one (pt_cmpR op_eq (pv 2) pe_str (nomark _))) (fun _ _ _ _ _ => pv 3))))), ?_⟩
    refine ⟨.ref p, rfl, p, _, 0, _, rfl, rfl, hp, at_of (j := 0) rfl rfl, a_SHAPES, _, .ref sq, rfl, rfl, hkd, ?_⟩
    have hcut : cutV (V.str (wordOf e) :: xs) (some 1) none = xs := by
      unfold cutV
      rw [show HT.sIx (V.str (wordOf e) :: xs).length 0 (some 1) = min 1 (V.str (wordOf e) :: xs).length from HT.sIx_nat _ 0 1, HT.sIx_none, List.length_cons, show min 1 (xs.length + 1) = 1 by omega]
      show List.take (xs.length + 1 - 1) xs = xs
      rw [Nat.add_sub_cancel, List.take_length]
    refine ⟨.ref sq, rfl, .ref p, rfl, 1, rfl, p, _, rfl, hp, ?_, fun c nc => ?_⟩
    · rw [show HT.sIx (V.str (wordOf e) :: xs).length 0 (some 1) = min 1 (V.str (wordOf e) :: xs).length from HT.sIx_nat _ 0 1, List.length_cons]
      omega
    rw [hcut]
    have smc : Same H (upd H c (.tup xs)) := same_new nc
    have hc : (upd H c (.tup xs)) c = some (.tup xs) := upd_same
    have hlk : ((shapeOf e).map V.str).length = xs.length := by rw [List.length_map]; exact hl.symm
    refine ⟨sq, c, (shapeOf e).map V.str, xs, rfl, .inr ⟨hsq _, SqT.of hc, fun D nD => lc_it (walk_zipT hlk rfl) (fun i H' => Same (upd H c (.tup xs)) H' ∧ H' D = some (.lst (pk ((shapeOf e).take i) (xs.take i)))) ⟨same_new nD, upd_same⟩ (fun i H' _ h => ⟨hsq _, SqT.of (h.1 _ _ hc)⟩) ?_ ?_⟩⟩
    · rintro i x H1 H2 hi ⟨sm, hD⟩ ⟨T, k, it, rfl, nT, rfl, e1, e2⟩
      have e1 : ((shapeOf e).map V.str)[i]? = some k := e1
      have e2 : xs[i]? = some it := e2
      rw [List.getElem?_map] at e1
      cases hk : (shapeOf e)[i]? with
      | none => rw [hk] at e1; cases e1
      | some ks =>
        rw [hk] at e1
        have ek : V.str ks = k := Option.some.inj e1
        subst ek
        have sm2 := sm.trans (same_new (o := .tup [V.str ks, it]) nT)
        have hD2 := same_new (o := .tup [V.str ks, it]) nT _ _ hD
        refine ⟨T, _, rfl, SqT.of upd_same, rfl, _, _, rfl, _, _, rfl, rfl, rfl, .str ks, rfl, rfl, _, rfl, iteD (fun cq => ?_) (fun cq => ?_)⟩
        · refine ⟨it, rfl, _, hD2, ?_, fun b' o eb => ?_, ?_⟩
          · refine small1000 (Nat.le_trans (pk_len _ _) ?_)
            rw [List.length_take]
            omega
          · rw [upd_ne (ne_of_none eb nD)]
            exact sm2 _ _ eb
          · rw [upd_same, pk_snoc hk e2, if_pos cq]
        · refine ⟨sm2, ?_⟩
          rw [hD2, pk_snoc hk e2, if_neg cq, List.append_nil]
    · rintro H1 ⟨sm, hD⟩
      rw [List.take_of_length_le (by rw [hl]; exact Nat.le_refl _), List.take_length] at hD
      have smt := smc.trans sm
      exact q _ D _ smt (smc.free nD) hD (hrow.same smt)
end
end NG

namespace NG
open PySem PySem.Spec PyProof.Rows L2
section
variable {P : Program} {w : World} {K : PySem.W.Frag} {mg : Str → Option Value} {base : Heap}
theorem fn_leaves {f : Addr} {fd : FuncData} (F : Fun K "leaves" "leaves" s_leaves f fd) (gF : mg "leaves" = some (.ref f)) (b : Binds K fd ["expression"] []) (B : Bl mg) (c_parts : Cal P w K mg base 1 "parts" (spParts K)) : ∀ n, FnOk P w K mg base CX0 (n + 2) f fd ["expression"] (spCnt K lvs n) := by
  intro n
  induction n with
  | zero =>
    refine fn_never fun vs H Q E h => ?_
    obtain ⟨_, e, _, _, _, _, hd, _⟩ := h
    cases e <;> (unfold Ex.dep at hd; omega)
  | succ n ih =>
  have c_leaves : Cal P w K mg base (n + 2) "leaves" (spCnt K lvs n) := ⟨f, fd, _, ih, gF, F.kp, b⟩
  refine F.ok sc_leaves (fun vs H Q E h => ?_) (fun cdv A outer s H vs Q E hr h => ?_)
  · obtain ⟨_, _, _, rfl, _⟩ := h
    rfl
  · obtain ⟨v, e, many, rfl, he, ho, hd, hd6, q⟩ := h
    refine ⟨_, (pss_cons (ps_setLc (i := 1) (own := [("part", 2)]) rfl sc_leaves.nd rfl rfl (sw_true rfl rfl rfl (by decide +kernel)) (pi_list (pe_c c_parts hr (by omega) (by rfl) (pa_cons (pv 0) pa_nil))) (blkOk_by (N := N_leaves) (sc := defScope s_leaves) (by decide +kernel)) (fun _ _ _ _ _ => pg_name (i := 2) sc_leaves.nd rfl (.inl rfl)) (fun _ _ _ _ _ => pts_nil) (fun _ _ _ _ _ => pe_c c_leaves hr (by omega) (by rfl) (pa_cons (pv 2) pa_nil))) (pss_cons (ps_if (pt_not (pt_truth (pv 1) (by intro _; rfl))) (pss_one (ps_ret pe_int)) pss_nil) (pss_cons (ps_if (pt_cmpR op_eq (pe_callB call_len_seq (by rfl) B.len PySem.boot_len (pa_cons (pv 1) pa_nil)) pe_int (nomark _)) (pss_one (ps_ret (pe_ix ix_list (pv 1) pe_int (fun _ _ => rfl)))) pss_nil) (pss_cons (ps_asg (pv 1) (pg_unl rfl (pgs_cons (pg_name (i := 3) sc_leaves.nd rfl (.inl rfl)) (pgs_cons (pg_name (i := 4) sc_leaves.nd rfl (.inl rfl)) pgs_nil)))) (pss_cons (ps_if (pt_cmpR op_in_seq (pe_ix ix_tup (pv 0) pe_int (fun _ _ => rfl)) (pe_tup (pa_cons pe_str (pa_cons pe_str pa_nil))) (by rfl)) (pss_one (ps_ret (pe_op op_mul (pv 3) (pv 4)))) pss_nil) (pss_cons (ps_if (pt_cmpR op_eq (pe_ix ix_tup (pv 0) pe_int (fun _ _ => rfl)) pe_str (nomark _)) (pss_one (ps_ret (pe_callB (call_max2 rfl) (by rfl) B.max (by decide +kernel) (pa_cons (pv 3) (pa_cons (pv 4) pa_nil))))) pss_nil) (pss_one (ps_ret (pe_op op_add (pv 3) (pv 4)))))))))), ?_⟩
    obtain ⟨p, xs, rfl, hp, hl, hl4, hl0, hrow⟩ := he.lies
    refine ⟨.ref p, rfl, .ref p, e, rfl, he, fun H1 l xs1 sm1 nl hl1 hrow1 => ⟨l, rfl, ⟨_, SqL.of hl1⟩, fun D nD => lc_list (xs := xs1) (fun i H' => Same H1 H' ∧ H' D = some (.lst (((e.kids.take i).map lvs).map V.int))) ⟨same_new nD, upd_same⟩ (fun i H' _ h => SqL.of (h.1 _ _ hl1)) ?_ ?_⟩⟩
    · rintro i x H2 hx ⟨sm2, hD⟩
      obtain ⟨k, hk, xk⟩ := hrow1.get' hx
      have hkm := List.mem_of_getElem? hk
      have hkd := kids_dep e k hkm
      refine ⟨rfl, tYes_in ?_⟩
      refine ⟨x, rfl, x, k, many, rfl, xk.same sm2, kids_ok e k ho hkm, by omega, by omega, fun H3 sm3 => ?_⟩
      have hD3 := sm3 _ _ hD
      have hkl : e.kids.length ≤ 2 := by cases e <;> simp [Ex.kids]
      refine ⟨_, hD3, ?_, fun b' o eb => ?_, ?_⟩
      · rw [List.length_map, List.length_map, List.length_take]
        exact small1000 (by omega)
      · rw [upd_ne (ne_of_none eb nD)]
        exact sm3 _ _ (sm2 _ _ eb)
      · rw [upd_same, List.take_add_one, hk, List.map_append, List.map_append]
        rfl
    · rintro H2 ⟨sm2, hD⟩
      rw [hrow1.len, List.take_length] at hD
      have sm02 := sm1.trans sm2
      clear hrow1 hl1 nD nl
      have hp2 := same_sqt sm02 hp
      refine ⟨.ref D, rfl, _, .inl ⟨_, SqL.of hD, rfl⟩, ?_⟩
      have kd := kids_dep e
      cases e with
      | fig c => exact iteTT rfl (q _ sm02)
      | reg c => exact iteTT rfl (q _ sm02)
      | share c => exact iteTT rfl (q _ sm02)
      | times fa a =>
        refine iteFF rfl ⟨.ref D, rfl, D, _, rfl, .inl (SqL.of hD), rfl, _, rfl, iteTT rfl ?_⟩
        exact ⟨.ref D, rfl, D, _, 0, _, rfl, rfl, SqL.of hD, rfl, q _ sm02⟩
      | «by» i a =>
        refine iteFF rfl ⟨.ref D, rfl, D, _, rfl, .inl (SqL.of hD), rfl, _, rfl, iteTT rfl ?_⟩
        exact ⟨.ref D, rfl, D, _, 0, _, rfl, rfl, SqL.of hD, rfl, q _ sm02⟩
      | two o a b' =>
        refine iteFF rfl ⟨.ref D, rfl, D, _, rfl, .inl (SqL.of hD), rfl, _, rfl, iteFF rfl ?_⟩
        refine ⟨.ref D, rfl, D, _, rfl, SqL.of hD, rfl, _, _, rfl, _, _, rfl, rfl, ?_⟩
        refine ⟨.ref p, rfl, p, _, 0, _, rfl, rfl, hp2, at_of (j := 0) rfl rfl, (by show 2 ≤ sizeLine; decide), fun t nt => ⟨t, _, rfl, .inr (SqT.of upd_same), rfl, rfl, _, rfl, ?_⟩⟩
        have hda := kd a (by simp [Ex.kids])
        have sm3 := sm02.trans (same_new (o := .tup [.str "sum", .str "less"]) nt)
        have hp3 := same_sqt (same_new (o := .tup [.str "sum", .str "less"]) nt) hp2
        cases o with
        | sum => exact iteTT rfl ⟨_, rfl, _, rfl, _, _, rfl, rfl, lvs_mul (by omega), q _ sm3⟩
        | less => exact iteTT rfl ⟨_, rfl, _, rfl, _, _, rfl, rfl, lvs_mul (by omega), q _ sm3⟩
        | least =>
          refine iteFF rfl ⟨.ref p, rfl, p, _, 0, _, rfl, rfl, hp3, at_of (j := 0) rfl rfl, rfl, _, rfl, iteFF rfl ?_⟩
          exact ⟨_, rfl, _, rfl, _, _, rfl, rfl, q _ sm3⟩
        | most =>
          refine iteFF rfl ⟨.ref p, rfl, p, _, 0, _, rfl, rfl, hp3, at_of (j := 0) rfl rfl, rfl, _, rfl, iteFF rfl ?_⟩
          exact ⟨_, rfl, _, rfl, _, _, rfl, rfl, q _ sm3⟩
      | when i c a b' =>
        refine iteFF rfl ⟨.ref D, rfl, D, _, rfl, .inl (SqL.of hD), rfl, _, rfl, iteFF rfl ?_⟩
        refine ⟨.ref D, rfl, D, _, rfl, SqL.of hD, rfl, _, _, rfl, _, _, rfl, rfl, ?_⟩
        refine ⟨.ref p, rfl, p, _, 0, _, rfl, rfl, hp2, at_of (j := 0) rfl rfl, (by show 2 ≤ sizeLine; decide), fun t nt => ⟨t, _, rfl, .inr (SqT.of upd_same), rfl, rfl, _, rfl, ?_⟩⟩
        have sm3 := sm02.trans (same_new (o := .tup [.str "sum", .str "less"]) nt)
        have hp3 := same_sqt (same_new (o := .tup [.str "sum", .str "less"]) nt) hp2
        refine iteFF rfl ⟨.ref p, rfl, p, _, 0, _, rfl, rfl, hp3, at_of (j := 0) rfl rfl, rfl, _, rfl, iteTT rfl ?_⟩
        exact ⟨_, rfl, _, rfl, _, _, rfl, q _ sm3⟩
      | whr i c a b' =>
        refine iteFF rfl ⟨.ref D, rfl, D, _, rfl, .inl (SqL.of hD), rfl, _, rfl, iteFF rfl ?_⟩
        refine ⟨.ref D, rfl, D, _, rfl, SqL.of hD, rfl, _, _, rfl, _, _, rfl, rfl, ?_⟩
        refine ⟨.ref p, rfl, p, _, 0, _, rfl, rfl, hp2, at_of (j := 0) rfl rfl, (by show 2 ≤ sizeLine; decide), fun t nt => ⟨t, _, rfl, .inr (SqT.of upd_same), rfl, rfl, _, rfl, ?_⟩⟩
        have sm3 := sm02.trans (same_new (o := .tup [.str "sum", .str "less"]) nt)
        have hp3 := same_sqt (same_new (o := .tup [.str "sum", .str "less"]) nt) hp2
        refine iteFF rfl ⟨.ref p, rfl, p, _, 0, _, rfl, rfl, hp3, at_of (j := 0) rfl rfl, rfl, _, rfl, iteFF rfl ?_⟩
        exact ⟨_, rfl, _, rfl, _, _, rfl, rfl, q _ sm3⟩
theorem ok_leaves {f : Addr} {fd : FuncData} (F : Fun K "leaves" "leaves" s_leaves f fd) (gF : mg "leaves" = some (.ref f)) (b : Binds K fd ["expression"] []) (B : Bl mg) (c_parts : Cal P w K mg base 1 "parts" (spParts K)) : ∀ n, Cal P w K mg base (n + 2) "leaves" (spCnt K lvs n) := fun n => ⟨f, fd, _, fn_leaves F gF b B c_parts n, gF, F.kp, b⟩
theorem fn_borders {f : Addr} {fd : FuncData} (F : Fun K "borders" "borders" s_borders f fd) (gF : mg "borders" = some (.ref f)) (b : Binds K fd ["expression"] []) (B : Bl mg) (c_parts : Cal P w K mg base 1 "parts" (spParts K)) (c_leaves' : ∀ n, Cal P w K mg base (n + 2) "leaves" (spCnt K lvs n)) : ∀ n, FnOk P w K mg base CX0 (n + 2) f fd ["expression"] (spCnt K bds n) := by
  intro n
  induction n with
  | zero =>
    refine fn_never fun vs H Q E h => ?_
    obtain ⟨_, e, _, _, _, _, hd, _⟩ := h
    cases e <;> (unfold Ex.dep at hd; omega)
  | succ n ih =>
  have c_borders : Cal P w K mg base (n + 2) "borders" (spCnt K bds n) := ⟨f, fd, _, ih, gF, F.kp, b⟩
  have c_leaves := c_leaves' n
  refine F.ok sc_borders (fun vs H Q E h => ?_) (fun cdv A outer s H vs Q E hr h => ?_)
  · obtain ⟨_, _, _, rfl, _⟩ := h
    rfl
  · obtain ⟨v, e, many, rfl, he, ho, hd, hd6, q⟩ := h
    refine ⟨_, (pss_cons (ps_setLc (i := 1) (own := [("part", 2)]) rfl sc_borders.nd rfl rfl (sw_true rfl rfl rfl (by decide +kernel)) (pi_list (pe_c c_parts hr (by omega) (by rfl) (pa_cons (pv 0) pa_nil))) (blkOk_by (N := N_borders) (sc := defScope s_borders) (by decide +kernel)) (fun _ _ _ _ _ => pg_name (i := 2) sc_borders.nd rfl (.inl rfl)) (fun _ _ _ _ _ => pts_nil) (fun _ _ _ _ _ => pe_c c_borders hr (by omega) (by rfl) (pa_cons (pv 2) pa_nil))) (pss_cons (ps_set (i := 3) sc_borders.nd rfl (.inl rfl) (pe_ix ix_tup (pv 0) pe_int (fun _ _ => rfl))) (pss_cons (ps_if (pt_cmpR op_eq (pv 3) pe_str (nomark _)) (pss_one (ps_ret (pe_callB (cr_max rfl) (by rfl) B.max (by decide +kernel) (pa_cons (pv 1) pa_nil)))) pss_nil) (pss_cons (ps_set (i := 4) sc_borders.nd rfl (.inl rfl) (pe_callB (cr_sum rfl) (by rfl) B.sum (by decide +kernel) (pa_cons (pv 1) pa_nil))) (pss_cons (ps_if (pt_cmpR op_eq (pv 3) pe_str (nomark _)) (pss_one (ps_ret (pe_op op_add (pv 4) pe_int))) pss_nil) (pss_cons (ps_if (pt_cmpR op_in_seq (pv 3) (pe_tup (pa_cons pe_str (pa_cons pe_str pa_nil))) (by rfl)) (pss_cons (ps_asg (pe_c c_parts hr (by omega) (by rfl) (pa_cons (pv 0) pa_nil)) (pg_unl rfl (pgs_cons (pg_name (i := 5) sc_borders.nd rfl (.inl rfl)) (pgs_cons (pg_name (i := 6) sc_borders.nd rfl (.inl rfl)) pgs_nil)))) (pss_one (ps_ret (pe_op op_add (pv 4) (pe_op op_mul (pe_c c_leaves hr (by omega) (by rfl) (pa_cons (pv 5) pa_nil)) (pe_c c_leaves hr (by omega) (by rfl) (pa_cons (pv 6) pa_nil))))))) pss_nil) (pss_one (ps_ret (pv 4))))))))), ?_⟩
    obtain ⟨p, xs, rfl, hp, hl, hl4, hl0, hrow⟩ := he.lies
    refine ⟨.ref p, rfl, .ref p, e, rfl, he, fun H1 l xs1 sm1 nl hl1 hrow1 => ⟨l, rfl, ⟨_, SqL.of hl1⟩, fun D nD => lc_list (xs := xs1) (fun i H' => Same H1 H' ∧ H' D = some (.lst (((e.kids.take i).map bds).map V.int))) ⟨same_new nD, upd_same⟩ (fun i H' _ h => SqL.of (h.1 _ _ hl1)) ?_ ?_⟩⟩
    · rintro i x H2 hx ⟨sm2, hD⟩
      obtain ⟨k, hk, xk⟩ := hrow1.get' hx
      have hkm := List.mem_of_getElem? hk
      have hkd := kids_dep e k hkm
      refine ⟨rfl, tYes_in ?_⟩
      refine ⟨x, rfl, x, k, many, rfl, xk.same sm2, kids_ok e k ho hkm, by omega, by omega, fun H3 sm3 => ?_⟩
      have hD3 := sm3 _ _ hD
      have hkl : e.kids.length ≤ 2 := by cases e <;> simp [Ex.kids]
      refine ⟨_, hD3, ?_, fun b' o eb => ?_, ?_⟩
      · rw [List.length_map, List.length_map, List.length_take]
        exact small1000 (by omega)
      · rw [upd_ne (ne_of_none eb nD)]
        exact sm3 _ _ (sm2 _ _ eb)
      · rw [upd_same, List.take_add_one, hk, List.map_append, List.map_append]
        rfl
    · rintro H2 ⟨sm2, hD⟩
      rw [hrow1.len, List.take_length] at hD
      have sm02 := sm1.trans sm2
      clear hrow1 hl1 nD nl
      have hp2 := same_sqt sm02 hp
      have he2 := he.same sm02
      refine ⟨.ref p, rfl, p, _, 0, _, rfl, rfl, hp2, at_of (j := 0) rfl rfl, ?_⟩
      refine ⟨_, rfl, rfl, _, rfl, ?_⟩
      have kd := kids_dep e
      have ko := kids_ok (many := many) e
      have pp := sm02
      have sum2 : ∀ x y : Int, [x, y].sum = x + y := fun x y => by simp
      cases e with
      | fig c =>
        refine iteFF rfl ⟨.ref D, rfl, D, [], rfl, SqL.of hD, ?_⟩
        refine ⟨_, rfl, rfl, _, rfl, iteFF rfl ⟨_, rfl, (by show 2 ≤ sizeLine; decide), fun t nt => ⟨t, _, rfl, .inr (SqT.of upd_same), rfl, rfl, _, rfl, iteFF rfl ?_⟩⟩⟩
        exact ⟨_, rfl, q _ (sm02.trans (same_new nt))⟩
      | reg c =>
        refine iteFF rfl ⟨.ref D, rfl, D, [], rfl, SqL.of hD, ?_⟩
        refine ⟨_, rfl, rfl, _, rfl, iteFF rfl ⟨_, rfl, (by show 2 ≤ sizeLine; decide), fun t nt => ⟨t, _, rfl, .inr (SqT.of upd_same), rfl, rfl, _, rfl, iteFF rfl ?_⟩⟩⟩
        exact ⟨_, rfl, q _ (sm02.trans (same_new nt))⟩
      | share c =>
        refine iteFF rfl ⟨.ref D, rfl, D, [], rfl, SqL.of hD, ?_⟩
        refine ⟨_, rfl, rfl, _, rfl, iteFF rfl ⟨_, rfl, (by show 2 ≤ sizeLine; decide), fun t nt => ⟨t, _, rfl, .inr (SqT.of upd_same), rfl, rfl, _, rfl, iteFF rfl ?_⟩⟩⟩
        exact ⟨_, rfl, q _ (sm02.trans (same_new nt))⟩
      | times fa a =>
        refine iteFF rfl ⟨.ref D, rfl, D, [bds a], rfl, SqL.of hD, ?_⟩
        rw [show [bds a].sum = bds a by simp]
        refine ⟨_, rfl, rfl, _, rfl, iteFF rfl ⟨_, rfl, (by show 2 ≤ sizeLine; decide), fun t nt => ⟨t, _, rfl, .inr (SqT.of upd_same), rfl, rfl, _, rfl, iteFF rfl ?_⟩⟩⟩
        exact ⟨_, rfl, q _ (sm02.trans (same_new nt))⟩
      | «by» i a =>
        refine iteFF rfl ⟨.ref D, rfl, D, [bds a], rfl, SqL.of hD, ?_⟩
        rw [show [bds a].sum = bds a by simp]
        refine ⟨_, rfl, rfl, _, rfl, iteFF rfl ⟨_, rfl, (by show 2 ≤ sizeLine; decide), fun t nt => ⟨t, _, rfl, .inr (SqT.of upd_same), rfl, rfl, _, rfl, iteFF rfl ?_⟩⟩⟩
        exact ⟨_, rfl, q _ (sm02.trans (same_new nt))⟩
      | when i c a b' =>
        refine iteTT rfl ⟨.ref D, rfl, D, [bds a, bds b'], rfl, SqL.of hD, (by show 0 < 2; decide), fun M hM hge => ?_⟩
        rw [mx_of hM hge]
        exact q _ sm02
      | whr i c a b' =>
        refine iteFF rfl ⟨.ref D, rfl, D, [bds a, bds b'], rfl, SqL.of hD, ?_⟩
        rw [sum2]
        exact ⟨_, rfl, rfl, _, rfl, iteTT rfl ⟨_, rfl, _, _, rfl, rfl, q _ sm02⟩⟩
      | two o a b' =>
        have hda := kd a (by simp [Ex.kids])
        have hdb := kd b' (by simp [Ex.kids])
        refine iteFF (wn_ne (by simp)) ⟨.ref D, rfl, D, [bds a, bds b'], rfl, SqL.of hD, ?_⟩
        rw [sum2]
        refine ⟨_, rfl, rfl, _, rfl, iteFF (wn_ne (by simp)) ⟨_, rfl, (by show 2 ≤ sizeLine; decide), fun t nt => ⟨t, _, rfl, .inr (SqT.of upd_same), rfl, rfl, _, rfl, ?_⟩⟩⟩
        have sm3 := sm02.trans (same_new (o := .tup [.str "least", .str "most"]) nt)
        have he3 := he2.same (same_new (o := .tup [.str "least", .str "most"]) nt)
        generalize upd H2 t (.tup [.str "least", .str "most"]) = H3 at sm3 he3
        cases o
        case sum => exact iteFF rfl ⟨_, rfl, q _ sm3⟩
        case less => exact iteFF rfl ⟨_, rfl, q _ sm3⟩
        all_goals
          refine iteTT rfl ?_
          refine ⟨.ref p, rfl, .ref p, _, rfl, he3, fun H4 l4 xs4 sm4 nl4 hl4 hrow4 => ?_⟩
          obtain ⟨u1, u2, rfl, e1, e2⟩ : ∃ u1 u2, xs4 = [u1, u2] ∧ ExAt K H4 a u1 ∧ ExAt K H4 b' u2 := by
            match xs4, hrow4 with
            | [u1, u2], ⟨x1, x2, _⟩ => exact ⟨u1, u2, rfl, x1, x2⟩
          refine ⟨l4, _, rfl, SqL.of hl4, rfl, _, _, rfl, _, _, rfl, rfl, ?_⟩
          refine ⟨_, rfl, u1, rfl, u1, a, many, rfl, e1, ko a ho (by simp [Ex.kids]), by omega, by omega, fun H5 sm5 => ?_⟩
          refine ⟨u2, rfl, u2, b', many, rfl, e2.same sm5, ko b' ho (by simp [Ex.kids]), by omega, by omega, fun H6 sm6 => ?_⟩
          refine ⟨_, _, rfl, rfl, lvs_mul (by omega), _, _, rfl, rfl, ?_⟩
          exact q _ (sm3.trans (sm4.trans (sm5.trans sm6)))
theorem ok_borders {f : Addr} {fd : FuncData} (F : Fun K "borders" "borders" s_borders f fd) (gF : mg "borders" = some (.ref f)) (b : Binds K fd ["expression"] []) (B : Bl mg) (c_parts : Cal P w K mg base 1 "parts" (spParts K)) (c_leaves' : ∀ n, Cal P w K mg base (n + 2) "leaves" (spCnt K lvs n)) : ∀ n, Cal P w K mg base (n + 2) "borders" (spCnt K bds n) := fun n => ⟨f, fd, _, fn_borders F gF b B c_parts c_leaves' n, gF, F.kp, b⟩
end
end NG

namespace NG
open PySem PySem.Spec PyProof.Rows L2
def FewAt (many : Nat) (ss : List Int) : Prop := ss.length = many ∧ (∀ x ∈ ss, 0 ≤ x ∧ x ≤ 6) ∧ 0 < ss.sum
theorem few_sum {many : Nat} (hm : many ≤ 3) {ss : List Int} (h : FewAt many ss) : ss.sum ≤ 18 := by
  have h1 := sum_le (B := 6) (ms := ss) fun x hx => (h.2.1 x hx).2
  have h2 : (ss.length : Int) * 6 ≤ 3 * 6 := Int.mul_le_mul_of_nonneg_right (by have := h.1; omega) (by decide)
  omega
def valsI (rs a b : List Int) (N : Nat) (e : Ex) (n : Nat) : List Int := (List.range n).map fun t => wo rs (wayR a b N t) e
def spValues (K : PySem.W.Frag) (m : Nat) : Sp := fun vs H Q _ => ∃ (ev rv : V) (p1 p2 : Addr) (many N : Nat) (e : Ex) (rs a b : List Int), vs = [ev, rv, .ref p1, .ref p2, .int (N : Int)] ∧ 2 ≤ many ∧ many ≤ 3 ∧ ExAt K H e ev ∧ ExOk many e ∧ e.dep ≤ m ∧ RegsAt K H rs rv ∧ SqT K H p1 (a.map V.int) ∧ FewAt many a ∧ SqT K H p2 (b.map V.int) ∧ FewAt many b ∧ 1 ≤ N ∧ N ≤ 20 ∧
  ∀ H' l, Same H H' → H l = none → H' l = some (.lst ((valsI rs a b N e (N + 1)).map V.int)) → Q (.ref l) H'
theorem vals_succ (rs a b : List Int) (N : Nat) (e : Ex) (n : Nat) : valsI rs a b N e (n + 1) = valsI rs a b N e n ++ [wo rs (wayR a b N n) e] := by
  unfold valsI
  rw [List.range_succ, List.map_append]
  rfl
theorem vals_len (rs a b : List Int) (N : Nat) (e : Ex) (n : Nat) : (valsI rs a b N e n).length = n := by
  unfold valsI
  rw [List.length_map, List.length_range]
theorem vals_get {rs a b : List Int} {N : Nat} {e : Ex} {n i : Nat} (h : i < n) : (valsI rs a b N e n)[i]? = some (wo rs (wayR a b N i) e) := by
  unfold valsI
  rw [List.getElem?_map, List.getElem?_range h]
  rfl
theorem way_ok {many N t : Nat} {a b : List Int} (hm : many ≤ 3) (ha : FewAt many a) (hb : FewAt many b) (hN : N ≤ 20) (ht : t ≤ N) (h1 : 1 ≤ N) : (∀ x ∈ wayR a b N t, 0 ≤ x ∧ x < 2 ^ 50) ∧ (wayR a b N t).length = many ∧ ∃ y ∈ wayR a b N t, 0 < y := by
  have s1 := few_sum hm ha
  have s2 := few_sum hm hb
  have hl : (wayR a b N t).length = many := by
    unfold wayR
    rw [List.length_zipWith, ha.1, hb.1, Nat.min_self]
  have hx : ∀ x ∈ wayR a b N t, 0 ≤ x ∧ x < 2 ^ 50 := fun x hx => by
    obtain ⟨i, hi⟩ := List.mem_iff_getElem?.mp hx
    unfold wayR at hi
    rw [List.getElem?_zipWith] at hi
    cases e1 : a[i]? with
    | none => rw [e1] at hi; cases hi
    | some u =>
      cases e2 : b[i]? with
      | none => rw [e1, e2] at hi; cases hi
      | some v =>
        rw [e1, e2] at hi
        have hi : u * b.sum * ((N : Int) - (t : Int)) + v * a.sum * (t : Int) = x := Option.some.inj hi
        have hu := ha.2.1 u (List.mem_of_getElem? e1)
        have hv := hb.2.1 v (List.mem_of_getElem? e2)
        have p1 := ha.2.2
        have p2 := hb.2.2
        have m1 : 0 ≤ u * b.sum ∧ u * b.sum ≤ 6 * 18 := ⟨Int.mul_nonneg hu.1 (by omega), Int.mul_le_mul hu.2 s2 (by omega) (by decide)⟩
        have m2 : 0 ≤ v * a.sum ∧ v * a.sum ≤ 6 * 18 := ⟨Int.mul_nonneg hv.1 (by omega), Int.mul_le_mul hv.2 s1 (by omega) (by decide)⟩
        have m3 : 0 ≤ u * b.sum * ((N : Int) - (t : Int)) ∧ u * b.sum * ((N : Int) - (t : Int)) ≤ 6 * 18 * 20 := ⟨Int.mul_nonneg m1.1 (by omega), Int.mul_le_mul m1.2 (by omega) (by omega) (by decide)⟩
        have m4 : 0 ≤ v * a.sum * (t : Int) ∧ v * a.sum * (t : Int) ≤ 6 * 18 * 20 := ⟨Int.mul_nonneg m2.1 (by omega), Int.mul_le_mul m2.2 (by omega) (by omega) (by decide)⟩
        omega
  refine ⟨hx, hl, ?_⟩
  have hs : 0 < (wayR a b N t).sum := by
    rw [way_sum (by rw [ha.1, hb.1])]
    exact Int.mul_pos (Int.mul_pos ha.2.2 hb.2.2) (by omega)
  by_cases h : ∃ y ∈ wayR a b N t, 0 < y
  · exact h
  · have := sum_le (B := 0) (ms := wayR a b N t) fun x hx' => by
      by_cases c : 0 < x
      · exact absurd ⟨x, hx', c⟩ h
      · omega
    omega
section
variable {P : Program} {w : World} {K : PySem.W.Frag} {mg : Str → Option Value} {base : Heap}
theorem ok_values {f : Addr} {fd : FuncData} (F : Fun K "_law_values" "_law_values" s_L_values f fd) (gF : mg "_law_values" = some (.ref f)) (b : Binds K fd ["_law_expression_here", "_law_registers_here", "_law_one", "_law_other", "_law_steps"] []) (B : Bl mg) (c_L_lowest : Cal P w K mg base 1 "_law_lowest" (spLowE K)) {m : Nat} (c_worth : Cal P w K mg base (m + 2) "worth" (spWorth K m)) : Cal P w K mg base (m + 3) "_law_values" (spValues K m) := by
  refine ⟨f, fd, _, F.ok sc_L_values (fun vs H Q E h => ?_) (fun cdv A outer s H vs Q E hr h => ?_), gF, F.kp, b⟩
  · obtain ⟨_, _, _, _, _, _, _, _, _, _, rfl, _⟩ := h
    rfl
  · obtain ⟨ev, rv, p1, p2, many, N, e, rs, a, b', rfl, hm2, hm3, he, ho, hd, hR, hp1, ha, hp2, hb, hN1, hN2, q⟩ := h
    refine ⟨_, (pss_cons (ps_par (i := 5) (j := 6) rfl sc_L_values.nd rfl rfl (by decide) rfl rfl (pa_cons (pe_op op_mul (pe_op op_mul (pe_callB (cr_sumT rfl) (by rfl) B.sum (by decide +kernel) (pa_cons (pv 2) pa_nil)) (pe_callB (cr_sumT rfl) (by rfl) B.sum (by decide +kernel) (pa_cons (pv 3) pa_nil))) (pv 4)) (pa_cons (pe_lst pa_nil) pa_nil)) (by rfl)) (pss_cons (ps_for PassesOwn.never rfl (pi_range1 rfl B.range (pa_cons (pe_op op_add (pv 4) pe_int) pa_nil)) (pg_name (i := 7) sc_L_values.nd rfl (.inr rfl)) (pss_cons (ps_setLc (i := 8) (own := [("_law_part", 9), ("_law_its", 10)]) rfl sc_L_values.nd rfl rfl (sw_true rfl rfl rfl (by decide +kernel)) (RZ.pi_zipA (by rfl) B.zip (pa_cons (pv 2) (pa_cons (pv 3) pa_nil))) (blkOk_by (N := N_L_values) (sc := defScope s_L_values) (by decide +kernel)) (fun _ _ _ _ _ => pgtK (n := 2) K rfl (pgs_cons (pg_name (i := 9) sc_L_values.nd rfl (.inl rfl)) (pgs_cons (pg_name (i := 10) sc_L_values.nd rfl (.inl rfl)) pgs_nil))) (fun _ _ _ _ _ => pts_nil) (fun _ _ _ _ _ => pe_op op_add (pe_op op_mul (pe_op op_mul (pv 9) (pe_callB (sumT K rfl) (by rfl) B.sum (by decide +kernel) (pa_cons (pv 3) pa_nil))) (pe_op op_sub (pv 4) (pv 7))) (pe_op op_mul (pe_op op_mul (pv 10) (pe_callB (sumT K rfl) (by rfl) B.sum (by decide +kernel) (pa_cons (pv 2) pa_nil))) (pv 7)))) (pss_cons (ps_set (i := 11) sc_L_values.nd rfl (.inl rfl) (pe_c c_L_lowest hr (by omega) (by rfl) (pa_cons (pv 8) pa_nil))) (pss_one (ps_expr (pe_bm PySem.F.plainAttrs_list PySem.F.slot_list_append PySem.F.type_list_append mt_append (pv 6) (pa_cons (pe_op op_mul (pe_op op_fdivW (pv 5) (pe_callB (cr_sumT rfl) (by rfl) B.sum (by decide +kernel) (pa_cons (pv 11) pa_nil))) (pe_c c_worth hr (by omega) (by rfl) (pa_cons (pv 0) (pa_cons (pv 1) (pa_cons (pv 11) pa_nil))))) pa_nil))))))) (pss_one (ps_ret (pv 6))))), ?_⟩
    have s1 := few_sum hm3 ha
    have s2 := few_sum hm3 hb
    have q1 := ha.2.2
    have q2 := hb.2.2
    have hab : a.length = b'.length := by rw [ha.1, hb.1]
    have m12 : 0 ≤ a.sum * b'.sum ∧ a.sum * b'.sum ≤ 18 * 18 := ⟨Int.mul_nonneg (by omega) (by omega), Int.mul_le_mul s1 s2 (by omega) (by decide)⟩
    refine ⟨.ref p1, rfl, p1, a, rfl, hp1, .ref p2, rfl, p2, b', rfl, hp2, _, _, rfl, rfl, .inl ⟨by omega, by omega⟩, .int (N : Int), rfl, _, _, rfl, rfl, .inr ⟨by omega, by omega⟩, (by show 0 ≤ sizeLine; decide), fun l nl => ⟨_, _, rfl, ?_⟩⟩
    have sl := same_new (o := .lst []) nl
    refine ⟨.int (N : Int), rfl, _, _, rfl, rfl, _, rfl, by omega, by omega, ?_⟩
    refine for_range (n := ((N : Int) + 1).toNat) (fun t σ H' => ∃ y7 y8 y11, σ = [some ev, some rv, some (.ref p1), some (.ref p2), some (.int (N : Int)), some (.int (a.sum * b'.sum * (N : Int))), some (.ref l), y7, y8, none, none, y11] ∧ Same H H' ∧ H' l = some (.lst ((valsI rs a b' N e t).map V.int))) ⟨none, none, none, rfl, sl, upd_same⟩ ?_ ?_
    · rintro t σ H1 ht ⟨y7, y8, y11, rfl, sm1, hl1⟩
      have htN : t ≤ N := by omega
      obtain ⟨wb, wl, y, hy, py⟩ := way_ok (many := many) hm3 ha hb hN2 htN hN1
      have hp11 := same_sqt sm1 hp1
      have hp21 := same_sqt sm1 hp2
      refine ⟨.ref p1, rfl, .ref p2, rfl, p1, p2, a.map V.int, b'.map V.int, rfl, .inr ⟨hp11, hp21, fun D nD => lc_it (walk_zipT (K := K) (a := p1) (b := p2) (xs := a.map V.int) (ys := b'.map V.int) (n := many) (by rw [List.length_map]; exact ha.1) (by rw [List.length_map]; exact hb.1)) (fun i H' => Same H1 H' ∧ H' D = some (.lst (((wayR a b' N t).take i).map V.int))) ⟨same_new nD, upd_same⟩ (fun i H' _ h => ⟨same_sqt h.1 hp11, same_sqt h.1 hp21⟩) ?_ ?_⟩⟩
      · rintro i x Ha Hb hi ⟨sma, hDa⟩ ⟨T, x1, x2, rfl, nT, rfl, e1, e2⟩
        obtain ⟨z1, rfl, g1⟩ := int_at e1
        obtain ⟨z2, rfl, g2⟩ := int_at e2
        have hz1 := ha.2.1 z1 (List.mem_of_getElem? g1)
        have hz2 := hb.2.1 z2 (List.mem_of_getElem? g2)
        have sT := same_new (o := .tup [.int z1, .int z2]) nT
        have smT := sma.trans sT
        have k1 : 0 ≤ z1 * b'.sum ∧ z1 * b'.sum ≤ 6 * 18 := ⟨Int.mul_nonneg hz1.1 (by omega), Int.mul_le_mul hz1.2 s2 (by omega) (by decide)⟩
        have k2 : 0 ≤ z2 * a.sum ∧ z2 * a.sum ≤ 6 * 18 := ⟨Int.mul_nonneg hz2.1 (by omega), Int.mul_le_mul hz2.2 s1 (by omega) (by decide)⟩
        refine ⟨T, _, rfl, SqT.of upd_same, rfl, _, _, rfl, _, _, rfl, rfl, rfl, tYes_in ?_⟩
        refine ⟨.int z1, rfl, .ref p2, rfl, p2, b', rfl, same_sqt smT hp21, _, _, rfl, rfl, .inl ⟨by omega, by omega⟩, .int (N : Int), rfl, .int (0 + (t : Int)), rfl, _, _, rfl, rfl, _, _, rfl, rfl, .inl ⟨by omega, by omega⟩, .int z2, rfl, .ref p1, rfl, p1, a, rfl, same_sqt smT hp11, _, _, rfl, rfl, .inl ⟨by omega, by omega⟩, .int (0 + (t : Int)), rfl, _, _, rfl, rfl, .inl ⟨by omega, by omega⟩, _, _, rfl, rfl, _, sT _ _ hDa, ?_, fun b'' o eb => ?_, ?_⟩
        · rw [List.length_map, List.length_take]
          exact small1000 (by omega)
        · rw [upd_ne (ne_of_none eb nD)]
          exact sT _ _ (sma _ _ eb)
        · have eg : (wayR a b' N t)[i]? = some (z1 * b'.sum * ((N : Int) - (0 + (t : Int))) + z2 * a.sum * (0 + (t : Int))) := by
            unfold wayR
            rw [List.getElem?_zipWith, g1, g2, Int.zero_add]
          rw [upd_same, List.take_add_one, eg, List.map_append]
          rfl
      · rintro H2 ⟨sm2, hD2⟩
        rw [← wl, List.take_length] at hD2
        have sm12 := sm1.trans sm2
        refine ⟨.ref D, rfl, D, wayR a b' N t, y, rfl, hD2, wb, by omega, hy, py, fun H3 t3 sm3 ht3 => ?_⟩
        have sm13 := sm12.trans sm3
        obtain ⟨k1, k2, k3⟩ := low_sh wb (by omega) hy py
        have hl3 := sm3 _ _ (sm2 _ _ hl1)
        have hll : (low (wayR a b' N t)).length = many := by unfold low; rw [List.length_map]; exact wl
        refine ⟨.ref l, rfl, .inl ⟨rfl, _, SqL.of hl3⟩, .int (a.sum * b'.sum * (N : Int)), rfl, .ref t3, rfl, t3, low (wayR a b' N t), rfl, ht3, _, _, rfl, rfl, wide_div (b := 70) k2 (by omega) (by decide) (by decide), ev, rfl, rv, rfl, .ref t3, rfl, ev, rv, .ref t3, e, many, rs, low (wayR a b' N t), rfl, he.same sm13, ho, hd, hR.imp fun _ _ h => same_sqt sm13 h, ⟨t3, rfl, ht3, hll, k1, k2, k3⟩, ?_⟩
        have hsum := way_sum hab N t
        have m13 : a.sum * b'.sum * (N : Int) ≤ 18 * 18 * 20 := Int.mul_le_mul m12.2 (by omega) (by omega) (by decide)
        have m14 : 0 ≤ a.sum * b'.sum * (N : Int) := Int.mul_nonneg m12.1 (by omega)
        have hq1 : a.sum * b'.sum * (N : Int) / (low (wayR a b' N t)).sum ≤ 18 * 18 * 20 := Int.le_trans (Int.ediv_le_self _ m14) m13
        have hq2 : 0 ≤ a.sum * b'.sum * (N : Int) / (low (wayR a b' N t)).sum := Int.ediv_nonneg m14 (by omega)
        refine ⟨_, _, rfl, rfl, .inl ⟨by omega, by omega⟩, l, _, _, rfl, rfl, hl3, ?_, ?_⟩
        · rw [List.length_map, vals_len]
          exact small1000 (by omega)
        · have ew : a.sum * b'.sum * (N : Int) / (low (wayR a b' N t)).sum * wo rs (low (wayR a b' N t)) e = wo rs (wayR a b' N t) e := by
            rw [← hsum]
            exact low_worth (fun x hx => (wb x hx).1) hy py k2 e
          dsimp only
          rw [ew]
          refine ⟨_, _, _, rfl, fun b'' o eb => ?_, ?_⟩
          · rw [upd_ne (ne_of_none eb nl)]
            exact sm13 _ _ eb
          · rw [upd_same, vals_succ, List.map_append]
            rfl
    · rintro σ H1 ⟨y7, y8, y11, rfl, sm1, hl1⟩
      rw [show ((N : Int) + 1).toNat = N + 1 by omega] at hl1
      exact ⟨.ref l, rfl, q _ l sm1 nl hl1⟩
end
end NG

namespace NG
open PySem PySem.Spec PyProof.Rows L2
/-! ### rows of expressions as data -/
theorem lay_ex : ∀ e : Ex, (toD e).canLay0 = true
  | .fig _ => by
    show (PyData.canLay0 (.str "fig") && (true && true)) = true
    decide +kernel
  | .reg _ => by
    show (PyData.canLay0 (.str "reg") && (true && true)) = true
    decide +kernel
  | .share _ => by
    show (PyData.canLay0 (.str "share") && (true && true)) = true
    decide +kernel
  | .two w a b => by
    have ha := lay_ex a
    have hb := lay_ex b
    show (PyData.canLay0 (.str (wn w)) && (PyData.canLay0 (toD a) && (PyData.canLay0 (toD b) && true))) = true
    rw [ha, hb]
    cases w <;> decide +kernel
  | .times _ a => by
    have ha := lay_ex a
    show (PyData.canLay0 (.str "times") && (true && (PyData.canLay0 (toD a) && true))) = true
    rw [ha]
    decide +kernel
  | .by _ a => by
    have ha := lay_ex a
    show (PyData.canLay0 (.str "by") && (true && (PyData.canLay0 (toD a) && true))) = true
    rw [ha]
    decide +kernel
  | .when _ _ a b => by
    have ha := lay_ex a
    have hb := lay_ex b
    show (PyData.canLay0 (.str "when") && (true && (true && (PyData.canLay0 (toD a) && (PyData.canLay0 (toD b) && true))))) = true
    rw [ha, hb]
    decide +kernel
  | .whr _ _ a b => by
    have ha := lay_ex a
    have hb := lay_ex b
    show (PyData.canLay0 (.str "where") && (true && (true && (PyData.canLay0 (toD a) && (PyData.canLay0 (toD b) && true))))) = true
    rw [ha, hb]
    decide +kernel
theorem depth_ex : ∀ e : Ex, (toD e).depth ≤ e.dep
  | .fig _ => Nat.le_refl _
  | .reg _ => Nat.le_refl _
  | .share _ => Nat.le_refl _
  | .two w a b => by
    have ha := depth_ex a
    have hb := depth_ex b
    show max 0 (max (toD a).depth (max (toD b).depth 0)) + 1 ≤ max a.dep b.dep + 1
    omega
  | .times _ a => by
    have ha := depth_ex a
    show max 0 (max 0 (max (toD a).depth 0)) + 1 ≤ a.dep + 1
    omega
  | .by _ a => by
    have ha := depth_ex a
    show max 0 (max 0 (max (toD a).depth 0)) + 1 ≤ a.dep + 1
    omega
  | .when _ _ a b => by
    have ha := depth_ex a
    have hb := depth_ex b
    show max 0 (max 0 (max 0 (max (toD a).depth (max (toD b).depth 0)))) + 1 ≤ max a.dep b.dep + 1
    omega
  | .whr _ _ a b => by
    have ha := depth_ex a
    have hb := depth_ex b
    show max 0 (max 0 (max 0 (max (toD a).depth (max (toD b).depth 0)))) + 1 ≤ max a.dep b.dep + 1
    omega
theorem shaped_rows {es : List Ex} (h : ∀ e ∈ es, e.dep ≤ 40) : SeqAt.shaped (.list (es.map toD)) = true := by
  have h1 : PyData.canLayAll0 (es.map toD) = true := by
    clear h
    induction es with
    | nil => rfl
    | cons e r ih =>
      show ((toD e).canLay0 && PyData.canLayAll0 (r.map toD)) = true
      rw [lay_ex e, ih]
      rfl
  have h2 : PyData.depthAll (es.map toD) ≤ 40 := by
    clear h1
    induction es with
    | nil => exact Nat.zero_le _
    | cons e r ih =>
      have a := depth_ex e
      have b := h e (by simp)
      have c := ih fun x hx => h x (List.mem_cons_of_mem _ hx)
      show max (toD e).depth (PyData.depthAll (r.map toD)) ≤ 40
      omega
  show (PyData.canLayAll0 (es.map toD) && decide (PyData.depthAll (es.map toD) + 1 ≤ 64)) = true
  rw [h1, decide_eq_true (by omega)]
  rfl
theorem RowsAt.dps {K : PySem.W.Frag} {H : Hp} : ∀ {vs : List V} {es : List Ex}, RowsAt K H vs es → DpAll K H vs (es.map toD)
  | [], [], _ => .nil
  | _ :: _, _ :: _, ⟨x, r⟩ => .cons x.dp r.dps
theorem RowsAt.append {K : PySem.W.Frag} {H : Hp} : ∀ {vs ws : List V} {es fs : List Ex}, RowsAt K H vs es → RowsAt K H ws fs → RowsAt K H (vs ++ ws) (es ++ fs)
  | [], _, [], _, _, r => r
  | _ :: _, _, _ :: _, _, ⟨x, q⟩, r => ⟨x, q.append r⟩
theorem RowsAt.mem {K : PySem.W.Frag} {H : Hp} : ∀ {vs : List V} {es : List Ex} {v : V}, RowsAt K H vs es → v ∈ vs → ∃ e ∈ es, ExAt K H e v
  | v' :: vs, e :: es, v, ⟨x, r⟩, h => by
    rcases List.mem_cons.mp h with h | h
    · subst h
      exact ⟨e, by simp, x⟩
    · obtain ⟨e', h1, h2⟩ := r.mem h
      exact ⟨e', List.mem_cons_of_mem _ h1, h2⟩
/-! ### slices of lists -/
theorem cut_take {xs : List V} {j : Nat} : cutV xs none (some (j : Int)) = xs.take j := by
  unfold cutV
  rw [HT.sIx_none, HT.sIx_nat, List.drop_zero, Nat.sub_zero]
  by_cases h : j ≤ xs.length
  · rw [Nat.min_eq_left h]
  · rw [Nat.min_eq_right (by omega), List.take_length, List.take_of_length_le (by omega)]
theorem cut_drop {xs : List V} {j : Nat} : cutV xs (some (j : Int)) none = xs.drop j := by
  unfold cutV
  rw [HT.sIx_none, HT.sIx_nat]
  by_cases h : j ≤ xs.length
  · rw [Nat.min_eq_left h, List.take_of_length_le (by rw [List.length_drop]; exact Nat.le_refl _)]
  · rw [Nat.min_eq_right (by omega), Nat.sub_self, List.take_zero, List.drop_of_length_le (by omega)]
/-! ### words within -/
def spWords (K : PySem.W.Frag) (n : Nat) : Sp := fun vs H Q _ => ∃ (v : V) (x : Str) (e : Ex) (many : Nat), vs = [v, .str x] ∧ ExAt K H e v ∧ ExOk many e ∧ e.dep ≤ n ∧ e.dep ≤ 6 ∧
  ∀ H' l us es, Same H H' → H l = none → H' l = some (.lst us) → RowsAt K H' us es → es.length ≤ 3 ^ n → (∀ e' ∈ es, ExOk many e' ∧ wordOf e' = x ∧ e'.dep ≤ e.dep) → Q (.ref l) H'
def spBorder (K : PySem.W.Frag) : Sp := fun vs H Q _ => ∃ (a : Addr) (v : V) (e : Ex) (many n : Nat), vs = [.ref a, v, .int (many : Int)] ∧ ExAt K H e v ∧ ExOk many e ∧ e.dep ≤ 5 ∧ 2 ≤ many ∧ many ≤ 3 ∧ HandAt H a n ∧ n ≤ 999997000 ∧
  ∀ H' u ms, But a H H' → HandAt H' a (n + 20) → ShAt K H' many ms u → Q u H'
def spNear (K : PySem.W.Frag) : Sp := fun vs H Q _ => ∃ (a : Addr) (v : V) (e : Ex) (many n : Nat), vs = [.ref a, v] ∧ ExAt K H e v ∧ ExOk many e ∧ e.dep ≤ 5 ∧ HandAt H a n ∧ n ≤ 999997000 ∧
  ∀ H' u rs, But a H H' → HandAt H' a (n + 15) → RegsAt K H' rs u → Q u H'
theorem is_whr {e : Ex} (h : wordOf e = "where") : ∃ j c a b, e = .whr j c a b := by
  cases e with
  | whr j c a b => exact ⟨j, c, a, b, rfl⟩
  | two w a b => cases w <;> exact absurd h (of_decide_eq_false rfl)
  | fig _ => exact absurd h (of_decide_eq_false rfl)
  | reg _ => exact absurd h (of_decide_eq_false rfl)
  | share _ => exact absurd h (of_decide_eq_false rfl)
  | times _ _ => exact absurd h (of_decide_eq_false rfl)
  | «by» _ _ => exact absurd h (of_decide_eq_false rfl)
  | when _ _ _ _ => exact absurd h (of_decide_eq_false rfl)
theorem is_when {e : Ex} (h : wordOf e = "when") : ∃ j c a b, e = .when j c a b := by
  cases e with
  | when j c a b => exact ⟨j, c, a, b, rfl⟩
  | two w a b => cases w <;> exact absurd h (of_decide_eq_false rfl)
  | fig _ => exact absurd h (of_decide_eq_false rfl)
  | reg _ => exact absurd h (of_decide_eq_false rfl)
  | share _ => exact absurd h (of_decide_eq_false rfl)
  | times _ _ => exact absurd h (of_decide_eq_false rfl)
  | «by» _ _ => exact absurd h (of_decide_eq_false rfl)
  | whr _ _ _ _ => exact absurd h (of_decide_eq_false rfl)
end NG

namespace NG
open PySem PySem.Spec PyProof.Rows L2
theorem PL.congr {N : Nat} {v w : Nat → Int} {F : List (Int × Int)} {C : List (Nat → Bool)} (p : PL N v F C) (h : ∀ t, t ≤ N → v t = w t) : PL N w F C :=
  ⟨p.conv, fun s t hs ht hC => by
    obtain ⟨f, hf, e⟩ := p.lin s t hs ht hC
    exact ⟨f, hf, fun u h1 h2 => by rw [← h u (by omega)]; exact e u h1 h2⟩⟩
def goneI (v : Nat → Int) (n : Nat) : List Int := (List.range n).map fun k => v (k + 1) - v k
theorem gone_len (v : Nat → Int) (n : Nat) : (goneI v n).length = n := by
  unfold goneI
  rw [List.length_map, List.length_range]
theorem gone_at {v : Nat → Int} {n k : Nat} (h : k < n) : (goneI v n).getD k 0 = v (k + 1) - v k := by
  unfold goneI
  rw [List.getD_eq_getElem?_getD, List.getElem?_map, List.getElem?_range h]
  rfl
theorem gone_succ (v : Nat → Int) (n : Nat) : goneI v (n + 1) = goneI v n ++ [v (n + 1) - v n] := by
  unfold goneI
  rw [List.range_succ, List.map_append]
  rfl
def spRight (K : PySem.W.Frag) : Sp := fun vs H Q _ => ∃ (a : Addr) (many n : Nat), vs = [.ref a, .int (many : Int)] ∧ 2 ≤ many ∧ many ≤ 3 ∧ HandAt H a n ∧ n ≤ 999980000 ∧ ∀ H', But a H H' → HandAt H' a (n + 300) → Q (.bl true) H'
section
variable {P : Program} {w : World} {K : PySem.W.Frag} {mg : Str → Option Value} {base : Heap}
theorem ok_right {f : Addr} {fd : FuncData} (F : Fun K "_law_right" "_law_right" s_L_right f fd) (gF : mg "_law_right" = some (.ref f)) (b : Binds K fd ["_law_hand_here", "_law_many"] []) (B : Bl mg) (n_set : mg "set" = none) (c_L_take : Cal P w K mg base 1 "_law_take" spTake) (c_L_expression : Cal P w K mg base 8 "_law_expression" (spExpr K 4)) (c_L_registers : Cal P w K mg base 4 "_law_registers" (spRegs K)) (c_L_few : Cal P w K mg base 2 "_law_few" (spFew K)) (c_L_values : Cal P w K mg base 7 "_law_values" (spValues K 4)) (c_borders : Cal P w K mg base 6 "borders" (spCnt K bds 4)) (c_leaves : Cal P w K mg base 6 "leaves" (spCnt K lvs 4)) : Cal P w K mg base 9 "_law_right" (spRight K) := by
  refine ⟨f, fd, _, F.ok sc_L_right (fun vs H Q E h => ?_) (fun cdv A outer s H vs Q E hr h => ?_), gF, F.kp, b⟩
  · obtain ⟨_, _, _, rfl, _⟩ := h
    rfl
  · obtain ⟨a, many, n, rfl, hm2, hm3, hh, hn, q⟩ := h
    refine ⟨_, (pss_cons (ps_par (i := 2) (j := 3) rfl sc_L_right.nd rfl rfl (by decide) rfl rfl (pa_cons (pe_c c_L_expression hr (by omega) (by rfl) (pa_cons (pv 0) (pa_cons (pv 1) (pa_cons (pe_op op_add pe_int (pe_c c_L_take hr (by omega) (by rfl) (pa_cons (pv 0) (pa_cons pe_int pa_nil)))) (pa_cons pe_int pa_nil))))) (pa_cons (pe_c c_L_registers hr (by omega) (by rfl) (pa_cons (pv 0) pa_nil)) pa_nil)) (by rfl)) (pss_cons (ps_par3 (i := 4) (j := 5) (l := 6) rfl sc_L_right.nd rfl rfl rfl (by decide) (by decide) (by decide) rfl rfl rfl (pa_cons (pe_c c_L_few hr (by omega) (by rfl) (pa_cons (pv 0) (pa_cons (pv 1) pa_nil))) (pa_cons (pe_c c_L_few hr (by omega) (by rfl) (pa_cons (pv 0) (pa_cons (pv 1) pa_nil))) (pa_cons (pe_op op_add pe_int (pe_c c_L_take hr (by omega) (by rfl) (pa_cons (pv 0) (pa_cons pe_int pa_nil)))) pa_nil))) (by rfl)) (pss_cons (ps_set (i := 7) sc_L_right.nd rfl (.inl rfl) (pe_c c_L_values hr (by omega) (by rfl) (pa_cons (pv 2) (pa_cons (pv 3) (pa_cons (pv 4) (pa_cons (pv 5) (pa_cons (pv 6) pa_nil))))))) (pss_cons (ps_set (i := 8) sc_L_right.nd rfl (.inr rfl) (pe_lc (own := [("_law_ahead", 9), ("_law_later", 10)]) rfl sc_L_right.nd (RZ.pi_zipA (by rfl) B.zip (pa_cons (pv 7) (pa_cons (pe_slice sl_list (pv 7) (po_some pe_int) po_none) pa_nil))) (blkOk_by (N := N_L_right) (sc := defScope s_L_right) (by decide +kernel)) (fun _ _ _ _ _ => pgtK (n := 2) K rfl (pgs_cons (pg_name (i := 9) sc_L_right.nd rfl (.inl rfl)) (pgs_cons (pg_name (i := 10) sc_L_right.nd rfl (.inl rfl)) pgs_nil))) (fun _ _ _ _ _ => pts_nil) (fun _ _ _ _ _ => pe_op op_sub (pv 10) (pv 9)))) (pss_cons (ps_setLc (i := 11) (own := [("_law_k", 12)]) rfl sc_L_right.nd rfl rfl (sw_true rfl rfl rfl (by decide +kernel)) (pi_range1 rfl B.range (pa_cons (pe_op op_sub (pv 6) pe_int) pa_nil)) (blkOk_by (N := N_L_right) (sc := defScope s_L_right) (by decide +kernel)) (fun _ _ _ _ _ => pg_name (i := 12) sc_L_right.nd rfl (.inl rfl)) (fun _ _ _ _ _ => pts_one (pt_cmpR op_ne (pe_ix (ixl K) (pv 8) (pv 12) (fun _ _ => rfl)) (pe_ix (ixl K) (pv 8) (pe_op op_add (pv 12) pe_int) (fun _ _ => rfl)) (nomark _))) (fun _ _ _ _ _ => pv 12)) (pss_cons (ps_set (i := 13) sc_L_right.nd rfl (.inl rfl) (pe_c c_borders hr (by omega) (by rfl) (pa_cons (pv 2) pa_nil))) (pss_one (ps_ret (pe_and (pe_cmpR op_le (pe_callB call_len_seq (by rfl) B.len PySem.boot_len (pa_cons (pv 11) pa_nil)) (pe_op op_mul pe_int (pv 13)) (nomark _)) (pe_one (pe_cmpR op_le (pe_lenSetG (by rfl) B.len (by rfl) n_set (pv 8)) (pe_op op_add (pe_c c_leaves hr (by omega) (by rfl) (pa_cons (pv 2) pa_nil)) (pv 13)) (nomark _)))))))))))), ?_⟩
    have c1 : cost 1 = 32 := rfl
    have c2 : cost 2 = 84 := rfl
    have c3 : cost 3 = 188 := rfl
    refine ⟨.ref a, rfl, .int (many : Int), rfl, .ref a, rfl, a, 3, n, rfl, by decide, by decide, hh, by omega, fun H1 r1 b1 hh1 r10 r11 => ⟨_, _, rfl, rfl, ?_⟩⟩
    obtain ⟨lv, hlv, hlv1, hlv2⟩ : ∃ l : Nat, 1 + r1 = (l : Int) ∧ l < 4 ∧ cost l ≤ 188 := by
      have : r1 = 0 ∨ r1 = 1 ∨ r1 = 2 := by omega
      rcases this with rfl | rfl | rfl
      · exact ⟨1, rfl, by decide, by decide⟩
      · exact ⟨2, rfl, by decide, by decide⟩
      · exact ⟨3, rfl, by decide, by decide⟩
    refine ⟨a, many, lv, n + 1, by dsimp only; rw [hlv]; rfl, hlv1, by omega, by omega, hh1, by omega, fun H2 ev e b2 hh2 he ho hd => ?_⟩
    refine ⟨.ref a, rfl, a, _, rfl, hh2, by omega, fun H3 rv rs b3 hh3 hR3 => ⟨_, _, rfl, ?_⟩⟩
    refine ⟨.ref a, rfl, .int (many : Int), rfl, a, many, _, rfl, hm2, hm3, hh3, by omega, fun H4 p4 sa b4 hh4 hp4 la ba pa => ?_⟩
    refine ⟨.ref a, rfl, .int (many : Int), rfl, a, many, _, rfl, hm2, hm3, hh4, by omega, fun H5 p5 sb b5 hh5 hp5 lb bb pb => ?_⟩
    refine ⟨.ref a, rfl, a, 15, _, rfl, by decide, by decide, hh5, by omega, fun H6 r6 b6 hh6 r60 r61 => ⟨_, _, rfl, rfl, _, _, _, rfl, ?_⟩⟩
    obtain ⟨N, hN, hN1, hN2⟩ : ∃ N : Nat, 6 + r6 = (N : Int) ∧ 2 ≤ N ∧ N ≤ 20 := ⟨(6 + r6).toNat, by omega, by omega, by omega⟩
    dsimp only
    rw [hN]
    have fa : FewAt many sa := ⟨la, ba, pa⟩
    have fb : FewAt many sb := ⟨lb, bb, pb⟩
    have he6 := (((he.but b3 hh2).but b4 hh3).but b5 hh4).but b6 hh5
    have hR6 := ((hR3.imp fun _ _ h => b4.sq hh3 h).imp fun _ _ h => b5.sq hh4 h).imp fun _ _ h => b6.sq hh5 h
    have hp46 := b6.sq hh5 (b5.sq hh4 hp4)
    have hp56 := b6.sq hh5 hp5
    have b06 := ((((b1.trans b2).trans b3).trans b4).trans b5).trans b6
    have hd4 : e.dep ≤ 4 := by omega
    obtain ⟨v', G, C, ev', pl', l1, m1⟩ := pl_ex (many := many) (N := N) (rs := rs) (row := wayR sa sb N) (T := sa.sum * sb.sum * (N : Int)) (c := fun j => sa.getD j 0 * sb.sum * (N : Int)) (d := fun j => sb.getD j 0 * sa.sum - sa.getD j 0 * sb.sum) (fun t _ => way_sum (by rw [la, lb]) N t) (fun j hj t _ => way_get (by rw [la, lb]) N t (by omega)) e ho
    obtain ⟨v, hv⟩ : ∃ v : Nat → Int, v = fun t => wo rs (wayR sa sb N t) e := ⟨_, rfl⟩
    have pl := pl'.congr (w := v) (fun t ht => by rw [hv]; exact ev' t ht)
    refine ⟨ev, rfl, rv, rfl, .ref p4, rfl, .ref p5, rfl, .int (N : Int), rfl, ev, rv, p4, p5, many, N, e, rs, sa, sb, rfl, hm2, hm3, he6, ho, hd4, hR6, hp46, fa, hp56, fb, by omega, hN2, fun H7 l7 sm7 nl7 hl7 => ?_⟩
    have hvl := vals_len rs sa sb N e (N + 1)
    have hvg : ∀ i, i < N + 1 → (valsI rs sa sb N e (N + 1))[i]? = some (v i) := fun i hi => by rw [vals_get hi, hv]
    generalize valsI rs sa sb N e (N + 1) = vl at hl7 hvl hvg
    clear ev' pl' hv
    -- gone
    refine ⟨.ref l7, rfl, .ref l7, rfl, 1, rfl, ?_⟩
    dsimp only [tNoPart]
    refine ⟨l7, _, rfl, SqL.of hl7, fun p8 n8 => ?_⟩
    have e8 : cutV (vl.map V.int) (some 1) none = (vl.map V.int).drop 1 := by
      rw [show (some (1 : Int)) = some ((1 : Nat) : Int) from rfl, cut_drop]
    rw [e8]
    have s8 := same_new (o := .lst ((vl.map V.int).drop 1)) n8
    have h8 : (upd H7 p8 (.lst ((vl.map V.int).drop 1))) p8 = some (.lst ((vl.map V.int).drop 1)) := upd_same
    have hl8 := s8 _ _ hl7
    have sm8 := sm7.trans s8
    clear s8 e8
    generalize upd H7 p8 (.lst ((vl.map V.int).drop 1)) = H8 at h8 hl8 sm8
    refine ⟨l7, p8, _, _, rfl, .inl ⟨SqL.of hl8, SqL.of h8, fun D9 nD9 => lc_it (walk_zip (K := K) (a := l7) (b := p8) (xs := vl.map V.int) (ys := (vl.map V.int).drop 1) (n := N) (by rw [List.length_drop, List.length_map, hvl]; omega)) (fun i H' => Same H8 H' ∧ H' D9 = some (.lst ((goneI v i).map V.int))) ⟨same_new nD9, upd_same⟩ (fun i H' _ h => ⟨SqL.of (h.1 _ _ hl8), SqL.of (h.1 _ _ h8)⟩) ?_ ?_⟩⟩
    · rintro i x Ha Hb hi ⟨sma, hDa⟩ ⟨T, x1, x2, rfl, nT, rfl, e1, e2⟩
      have e2 : ((vl.map V.int).drop 1)[i]? = some x2 := e2
      rw [List.getElem?_drop] at e2
      obtain ⟨z1, rfl, g1⟩ := int_at e1
      obtain ⟨z2, rfl, g2⟩ := int_at e2
      rw [hvg i (by omega)] at g1
      rw [Nat.add_comm 1 i, hvg (i + 1) (by omega)] at g2
      have sT := same_new (o := .tup [.int z1, .int z2]) nT
      refine ⟨T, _, rfl, SqT.of upd_same, rfl, _, _, rfl, _, _, rfl, rfl, rfl, tYes_in ?_⟩
      refine ⟨.int z2, rfl, .int z1, rfl, _, _, rfl, rfl, _, sT _ _ hDa, ?_, fun b' o eb => ?_, ?_⟩
      · rw [List.length_map, gone_len]
        exact small1000 (by omega)
      · rw [upd_ne (ne_of_none eb nD9)]
        exact sT _ _ (sma _ _ eb)
      · rw [upd_same, gone_succ, List.map_append, Option.some.inj g1, Option.some.inj g2]
        rfl
    · rintro H9 ⟨sm9, hD9⟩
      -- bent
      refine ⟨.int (N : Int), rfl, _, _, rfl, rfl, _, rfl, by omega, by omega, fun D10 nD10 => lc_range (n := ((N : Int) - 1).toNat) (fun i H' => Same H9 H' ∧ H' D10 = some (.lst (((List.range i).filter fun k => (v (k + 1) - v k) != (v (k + 2) - v (k + 1))).map fun k : Nat => V.int (0 + (k : Int))))) ⟨same_new nD10, upd_same⟩ ?_ ?_⟩
      · rintro i Ha hi ⟨sma, hDa⟩
        have hi1 : i + 1 < N := by omega
        have hga := sma _ _ hD9
        have a1 : atI ((goneI v N).map V.int) (0 + (i : Int)) = some (.int (v (i + 1) - v i)) := by
          rw [Int.zero_add, at_nth (by rw [gone_len]; omega), gone_at (by omega)]
        have a2 : atI ((goneI v N).map V.int) (0 + (i : Int) + 1) = some (.int (v (i + 2) - v (i + 1))) := by
          rw [show 0 + (i : Int) + 1 = ((i + 1 : Nat) : Int) by omega, at_nth (by rw [gone_len]; omega), gone_at (by omega)]
        refine ⟨rfl, ?_⟩
        refine ⟨.ref D9, rfl, .int (0 + (i : Int)), rfl, D9, _, _, _, rfl, rfl, SqL.of hga, a1, .ref D9, rfl, .int (0 + (i : Int)), rfl, _, _, rfl, rfl, D9, _, _, _, rfl, rfl, SqL.of hga, a2, rfl, _, rfl, ?_⟩
        have edec : (!decide (V.int (v (i + 1) - v i) = V.int (v (i + 2) - v (i + 1)))) = ((v (i + 1) - v i) != (v (i + 2) - v (i + 1))) := by
          rw [dec_int]
          rfl
        rw [edec]
        have hfl : ((List.range i).filter fun k => (v (k + 1) - v k) != (v (k + 2) - v (k + 1))).length ≤ i := by
          have := List.length_filter_le (fun k => (v (k + 1) - v k) != (v (k + 2) - v (k + 1))) (List.range i)
          rw [List.length_range] at this
          exact this
        by_cases c : ((v (i + 1) - v i) != (v (i + 2) - v (i + 1))) = true
        · rw [c]
          refine iteT ⟨.int (0 + (i : Int)), rfl, _, hDa, ?_, fun b' o eb => ?_, ?_⟩
          · rw [List.length_map]
            exact small1000 (by omega)
          · rw [upd_ne (ne_of_none eb nD10)]
            exact sma _ _ eb
          · rw [upd_same, List.range_succ, List.filter_append, List.filter_cons_of_pos (p := fun k => (v (k + 1) - v k) != (v (k + 2) - v (k + 1))) (a := i) c, List.filter_nil, List.map_append]
            rfl
        · refine iteFF (by simpa using c) ⟨sma, ?_⟩
          rw [List.range_succ, List.filter_append, List.filter_cons_of_neg (p := fun k => (v (k + 1) - v k) != (v (k + 2) - v (k + 1))) (a := i) c, List.filter_nil, List.append_nil]
          exact hDa
      · rintro H10 ⟨sm10, hD10⟩
        rw [show ((N : Int) - 1).toNat = N - 1 by omega] at hD10
        have hbl := bent_le pl
        have sm610 := (sm8.trans sm9).trans sm10
        refine ⟨ev, rfl, ev, e, many, rfl, he6.same sm610, ho, hd4, by omega, fun H11 sm11 => ?_⟩
        have hD11 := sm11 _ _ hD10
        refine ⟨.ref D10, rfl, D10, _, rfl, .inl (SqL.of hD11), .int (bds e), rfl, 2, _, rfl, rfl, .inl ⟨by decide, by decide⟩, _, _, rfl, rfl, _, rfl, ?_⟩
        have hle : ((((List.range (N - 1)).filter fun k => (v (k + 1) - v k) != (v (k + 2) - v (k + 1))).map fun k : Nat => V.int (0 + (k : Int))).length : Int) ≤ 2 * bds e := by
          rw [List.length_map]
          have hbl : ((List.range (N - 1)).filter fun k => (v (k + 1) - v k) != (v (k + 2) - v (k + 1))).length ≤ 2 * C.length := hbl
          omega
        dsimp only
        rw [decide_eq_true hle]
        refine iteT ?_
        have hD911 := sm11 _ _ (sm10 _ _ hD9)
        refine ⟨.ref D9, rfl, D9, goneI v N, rfl, SqL.of hD911, by rw [gone_len]; omega, fun ds hnd hmem hdl => ?_⟩
        refine ⟨ev, rfl, ev, e, many, rfl, (he6.same sm610).same sm11, ho, hd4, by omega, fun H12 sm12 => ⟨.int (bds e), rfl, _, _, rfl, rfl, _, _, rfl, rfl, ?_⟩⟩
        have hst := steps_le pl hnd fun z hz => by
          have := (hmem z).mp hz
          unfold goneI at this
          obtain ⟨k, hk, e'⟩ := List.mem_map.mp this
          exact ⟨k, List.mem_range.mp hk, e'.symm⟩
        have hle2 : ((ds.length : Nat) : Int) ≤ lvs e + bds e := by omega
        dsimp only
        rw [decide_eq_true hle2]
        have smE := (sm610.trans sm11).trans sm12
        refine q _ (b06.trans (But.of smE)) ?_
        obtain ⟨g, sd, m, e', y1, y2, y3, y4⟩ := hh6
        exact ⟨g, sd, m, smE _ _ e', y1, y2, y3, by omega⟩
def spLaw (K : PySem.W.Frag) : Sp := fun vs H Q _ => ∃ (a : Addr) (ns : List Int), vs = [.ref a] ∧ SqL K H a (ns.map V.int) ∧ ns.length ≤ 63 ∧ ∀ H', Q (.bl true) H'
theorem ok_law {f : Addr} {fd : FuncData} (F : Fun K "law" "law" s_law f fd) (B : Bl mg) (c_L_hand : Cal P w K mg base 1 "_law_hand" (spHand K)) (c_L_take : Cal P w K mg base 1 "_law_take" spTake) (c_L_right : Cal P w K mg base 9 "_law_right" (spRight K)) : FnOk P w K mg base CX0 10 f fd ["_law_script"] (spLaw K) := by
  refine F.ok sc_law (fun vs H Q E h => ?_) (fun cdv A outer s H vs Q E hr h => ?_)
  · obtain ⟨_, _, rfl, _⟩ := h
    rfl
  · obtain ⟨sc, ns, rfl, hS, hl, q⟩ := h
    refine ⟨_, (pss_cons (ps_for PassesOwn.never rfl (pi_range1 rfl B.range (pa_cons (pe_op op_add pe_int (pe_callB (call_min2 rfl) (by rfl) B.min (by decide +kernel) (pa_cons pe_int (pa_cons (pe_callB call_len_seq (by rfl) B.len PySem.boot_len (pa_cons (pv 0) pa_nil)) pa_nil)))) pa_nil)) (pg_name (i := 1) sc_law.nd rfl (.inl rfl)) (pss_cons (ps_set (i := 2) sc_law.nd rfl (.inl rfl) (pe_c c_L_hand hr (by omega) (by rfl) (pa_cons (pv 0) (pa_cons (pv 1) pa_nil)))) (pss_one (ps_for PassesOwn.never rfl (pi_range1 rfl B.range (pa_cons pe_int pa_nil)) (pg_name (i := 3) sc_law.nd rfl (.inl rfl)) (pss_one (ps_if (pt_not (pt_val (pe_c c_L_right hr (by omega) (by rfl) (pa_cons (pv 2) (pa_cons (pe_op op_add pe_int (pe_c c_L_take hr (by omega) (by rfl) (pa_cons (pv 2) (pa_cons pe_int pa_nil)))) pa_nil))))) (pss_one (ps_ret pe_bl)) pss_nil)))))) (pss_one (ps_ret pe_bl))), ?_⟩
    have hb : ∀ z : Int, (if z < 2 then z else 2) ≤ 2 := fun z => by split <;> omega
    have hb0 : ∀ z : Int, 0 ≤ z → 0 ≤ (if z < 2 then z else 2) := fun z hz => by split <;> omega
    have h3 := hb (((ns.map V.int).length : Nat) : Int)
    have h4 := hb0 (((ns.map V.int).length : Nat) : Int) (by omega)
    refine ⟨.ref sc, rfl, sc, _, rfl, .inl hS, _, _, rfl, _, _, rfl, rfl, _, rfl, by omega, by omega, ?_⟩
    refine for_range (fun i σ H' => ∃ y1 y2 y3, σ = [some (.ref sc), y1, y2, y3] ∧ Same H H') ⟨none, none, none, rfl, Same.refl _⟩ ?_ ?_
    · rintro i σ H1 hi ⟨y1, y2, y3, rfl, sm1⟩
      have hi4 : i < 4 := by omega
      refine ⟨.ref sc, rfl, .int (0 + (i : Int)), rfl, sc, _, ns, rfl, by omega, by omega, sm1.seq hS, fun p g sd np g0 sd0 => ?_⟩
      have hh1 : HandAt (upd H1 p (.lst [.int g, .int sd, .int 0])) p 0 := ⟨g, sd, 0, upd_same, g0, sd0, by decide, by decide⟩
      have b1 : But p H1 (upd H1 p (.lst [.int g, .int sd, .int 0])) := But.put
      generalize upd H1 p (.lst [.int g, .int sd, .int 0]) = H2 at hh1 b1
      refine ⟨3, rfl, by decide, by decide, ?_⟩
      refine for_range (n := (3 : Int).toNat) (fun j σ H' => ∃ y3, σ = [some (.ref sc), some (.int (0 + (i : Int))), some (.ref p), y3] ∧ But p H1 H' ∧ HandAt H' p (400 * j)) ⟨y3, rfl, b1, hh1⟩ ?_ ?_
      · rintro j σ H3 hj ⟨z3, rfl, b3, hh3⟩
        have hj3 : j < 3 := hj
        refine ⟨.ref p, rfl, .ref p, rfl, p, 2, _, rfl, by decide, by decide, hh3, by omega, fun H4 r4 b4 hh4 r40 r41 => ⟨_, _, rfl, rfl, ?_⟩⟩
        obtain ⟨many, hmany, hm2, hm3⟩ : ∃ m : Nat, 2 + r4 = (m : Int) ∧ 2 ≤ m ∧ m ≤ 3 := ⟨(2 + r4).toNat, by omega, by omega, by omega⟩
        refine ⟨p, many, _, by dsimp only; rw [hmany]; rfl, hm2, hm3, hh4, by omega, fun H5 b5 hh5 => ⟨_, rfl, iteFF rfl ?_⟩⟩
        exact ⟨_, rfl, (b3.trans b4).trans b5, hh5.le (by omega)⟩
      · rintro σ H3 ⟨z3, rfl, b3, hh3⟩
        exact ⟨_, _, _, rfl, sm1.trans (b3.same np)⟩
    · rintro σ H1 ⟨y1, y2, y3, rfl, sm1⟩
      exact q _
end
end NG

namespace NG
open PySem PySem.Spec PyProof.Rows L2
theorem all_mk {l : PySem.W.OpenLaw} {w : World} {K : PySem.W.Frag} {h : Heap} {mg : Str → Option Value} {fa f_parts f_led_part f_side_part f_join_worths f_worth f_leaves f_borders f_L_hand f_L_take f_L_of f_L_figure f_L_leaf f_L_expression f_L_lowest f_L_registers f_L_few f_L_values f_L_right f_law : Addr} (X : K.In h) (G : h.Ns mainGlobals mg) (hfa : mg "law" = some (.ref fa))
    {od_parts an_parts od_led_part an_led_part od_side_part an_side_part od_join_worths an_join_worths od_worth an_worth od_leaves an_leaves od_borders an_borders od_L_hand an_L_hand od_L_take an_L_take od_L_of an_L_of od_L_figure an_L_figure od_L_leaf an_L_leaf od_L_expression an_L_expression od_L_lowest an_L_lowest od_L_registers an_L_registers od_L_few an_L_few od_L_values an_L_values od_L_right an_L_right od_law an_law : Option Addr} {sl_parts sl_led_part sl_side_part sl_join_worths sl_worth sl_leaves sl_borders sl_L_hand sl_L_take sl_L_of sl_L_figure sl_L_leaf sl_L_expression sl_L_lowest sl_L_registers sl_L_few sl_L_values sl_L_right sl_law : Array (Option Value)} {oc_parts kV_parts dc_parts pm_parts cd_parts ct_parts oc_led_part kV_led_part dc_led_part pm_led_part cd_led_part ct_led_part oc_side_part kV_side_part dc_side_part pm_side_part cd_side_part ct_side_part oc_join_worths kV_join_worths dc_join_worths pm_join_worths cd_join_worths ct_join_worths oc_worth kV_worth dc_worth pm_worth cd_worth ct_worth oc_leaves kV_leaves dc_leaves pm_leaves cd_leaves ct_leaves oc_borders kV_borders dc_borders pm_borders cd_borders ct_borders oc_L_hand kV_L_hand dc_L_hand pm_L_hand cd_L_hand ct_L_hand oc_L_take kV_L_take dc_L_take pm_L_take cd_L_take ct_L_take oc_L_of kV_L_of dc_L_of pm_L_of cd_L_of ct_L_of oc_L_figure kV_L_figure dc_L_figure pm_L_figure cd_L_figure ct_L_figure oc_L_leaf kV_L_leaf dc_L_leaf pm_L_leaf cd_L_leaf ct_L_leaf oc_L_expression kV_L_expression dc_L_expression pm_L_expression cd_L_expression ct_L_expression oc_L_lowest kV_L_lowest dc_L_lowest pm_L_lowest cd_L_lowest ct_L_lowest oc_L_registers kV_L_registers dc_L_registers pm_L_registers cd_L_registers ct_L_registers oc_L_few kV_L_few dc_L_few pm_L_few cd_L_few ct_L_few oc_L_values kV_L_values dc_L_values pm_L_values cd_L_values ct_L_values oc_L_right kV_L_right dc_L_right pm_L_right cd_L_right ct_L_right oc_law kV_law dc_law pm_law cd_law ct_law : Value}
    (a_parts : PySem.W.nsIn K mainGlobals "parts" = some (some (.ref f_parts))) (l_parts : K.lookup f_parts = some ⟨oc_parts, od_parts, .func (PySem.W.fnOf "parts" "parts" (defArgs s_parts) (defBody s_parts) (defScope s_parts) .none kV_parts dc_parts pm_parts an_parts cd_parts ct_parts), sl_parts⟩) (c_parts : PySem.W.codeIn K cd_parts "parts" = true) (k_parts : PySem.W.keepIn K (.ref f_parts) = true)
    (a_led_part : PySem.W.nsIn K mainGlobals "led_part" = some (some (.ref f_led_part))) (l_led_part : K.lookup f_led_part = some ⟨oc_led_part, od_led_part, .func (PySem.W.fnOf "led_part" "led_part" (defArgs s_led_part) (defBody s_led_part) (defScope s_led_part) .none kV_led_part dc_led_part pm_led_part an_led_part cd_led_part ct_led_part), sl_led_part⟩) (c_led_part : PySem.W.codeIn K cd_led_part "led_part" = true) (k_led_part : PySem.W.keepIn K (.ref f_led_part) = true)
    (a_side_part : PySem.W.nsIn K mainGlobals "side_part" = some (some (.ref f_side_part))) (l_side_part : K.lookup f_side_part = some ⟨oc_side_part, od_side_part, .func (PySem.W.fnOf "side_part" "side_part" (defArgs s_side_part) (defBody s_side_part) (defScope s_side_part) .none kV_side_part dc_side_part pm_side_part an_side_part cd_side_part ct_side_part), sl_side_part⟩) (c_side_part : PySem.W.codeIn K cd_side_part "side_part" = true) (k_side_part : PySem.W.keepIn K (.ref f_side_part) = true)
    (a_join_worths : PySem.W.nsIn K mainGlobals "join_worths" = some (some (.ref f_join_worths))) (l_join_worths : K.lookup f_join_worths = some ⟨oc_join_worths, od_join_worths, .func (PySem.W.fnOf "join_worths" "join_worths" (defArgs s_join_worths) (defBody s_join_worths) (defScope s_join_worths) .none kV_join_worths dc_join_worths pm_join_worths an_join_worths cd_join_worths ct_join_worths), sl_join_worths⟩) (c_join_worths : PySem.W.codeIn K cd_join_worths "join_worths" = true) (k_join_worths : PySem.W.keepIn K (.ref f_join_worths) = true)
    (a_worth : PySem.W.nsIn K mainGlobals "worth" = some (some (.ref f_worth))) (l_worth : K.lookup f_worth = some ⟨oc_worth, od_worth, .func (PySem.W.fnOf "worth" "worth" (defArgs s_worth) (defBody s_worth) (defScope s_worth) .none kV_worth dc_worth pm_worth an_worth cd_worth ct_worth), sl_worth⟩) (c_worth : PySem.W.codeIn K cd_worth "worth" = true) (k_worth : PySem.W.keepIn K (.ref f_worth) = true)
    (a_leaves : PySem.W.nsIn K mainGlobals "leaves" = some (some (.ref f_leaves))) (l_leaves : K.lookup f_leaves = some ⟨oc_leaves, od_leaves, .func (PySem.W.fnOf "leaves" "leaves" (defArgs s_leaves) (defBody s_leaves) (defScope s_leaves) .none kV_leaves dc_leaves pm_leaves an_leaves cd_leaves ct_leaves), sl_leaves⟩) (c_leaves : PySem.W.codeIn K cd_leaves "leaves" = true) (k_leaves : PySem.W.keepIn K (.ref f_leaves) = true)
    (a_borders : PySem.W.nsIn K mainGlobals "borders" = some (some (.ref f_borders))) (l_borders : K.lookup f_borders = some ⟨oc_borders, od_borders, .func (PySem.W.fnOf "borders" "borders" (defArgs s_borders) (defBody s_borders) (defScope s_borders) .none kV_borders dc_borders pm_borders an_borders cd_borders ct_borders), sl_borders⟩) (c_borders : PySem.W.codeIn K cd_borders "borders" = true) (k_borders : PySem.W.keepIn K (.ref f_borders) = true)
    (a_L_hand : PySem.W.nsIn K mainGlobals "_law_hand" = some (some (.ref f_L_hand))) (l_L_hand : K.lookup f_L_hand = some ⟨oc_L_hand, od_L_hand, .func (PySem.W.fnOf "_law_hand" "_law_hand" (defArgs s_L_hand) (defBody s_L_hand) (defScope s_L_hand) .none kV_L_hand dc_L_hand pm_L_hand an_L_hand cd_L_hand ct_L_hand), sl_L_hand⟩) (c_L_hand : PySem.W.codeIn K cd_L_hand "_law_hand" = true) (k_L_hand : PySem.W.keepIn K (.ref f_L_hand) = true)
    (a_L_take : PySem.W.nsIn K mainGlobals "_law_take" = some (some (.ref f_L_take))) (l_L_take : K.lookup f_L_take = some ⟨oc_L_take, od_L_take, .func (PySem.W.fnOf "_law_take" "_law_take" (defArgs s_L_take) (defBody s_L_take) (defScope s_L_take) .none kV_L_take dc_L_take pm_L_take an_L_take cd_L_take ct_L_take), sl_L_take⟩) (c_L_take : PySem.W.codeIn K cd_L_take "_law_take" = true) (k_L_take : PySem.W.keepIn K (.ref f_L_take) = true)
    (a_L_of : PySem.W.nsIn K mainGlobals "_law_of" = some (some (.ref f_L_of))) (l_L_of : K.lookup f_L_of = some ⟨oc_L_of, od_L_of, .func (PySem.W.fnOf "_law_of" "_law_of" (defArgs s_L_of) (defBody s_L_of) (defScope s_L_of) .none kV_L_of dc_L_of pm_L_of an_L_of cd_L_of ct_L_of), sl_L_of⟩) (c_L_of : PySem.W.codeIn K cd_L_of "_law_of" = true) (k_L_of : PySem.W.keepIn K (.ref f_L_of) = true)
    (a_L_figure : PySem.W.nsIn K mainGlobals "_law_figure" = some (some (.ref f_L_figure))) (l_L_figure : K.lookup f_L_figure = some ⟨oc_L_figure, od_L_figure, .func (PySem.W.fnOf "_law_figure" "_law_figure" (defArgs s_L_figure) (defBody s_L_figure) (defScope s_L_figure) .none kV_L_figure dc_L_figure pm_L_figure an_L_figure cd_L_figure ct_L_figure), sl_L_figure⟩) (c_L_figure : PySem.W.codeIn K cd_L_figure "_law_figure" = true) (k_L_figure : PySem.W.keepIn K (.ref f_L_figure) = true)
    (a_L_leaf : PySem.W.nsIn K mainGlobals "_law_leaf" = some (some (.ref f_L_leaf))) (l_L_leaf : K.lookup f_L_leaf = some ⟨oc_L_leaf, od_L_leaf, .func (PySem.W.fnOf "_law_leaf" "_law_leaf" (defArgs s_L_leaf) (defBody s_L_leaf) (defScope s_L_leaf) .none kV_L_leaf dc_L_leaf pm_L_leaf an_L_leaf cd_L_leaf ct_L_leaf), sl_L_leaf⟩) (c_L_leaf : PySem.W.codeIn K cd_L_leaf "_law_leaf" = true) (k_L_leaf : PySem.W.keepIn K (.ref f_L_leaf) = true)
    (a_L_expression : PySem.W.nsIn K mainGlobals "_law_expression" = some (some (.ref f_L_expression))) (l_L_expression : K.lookup f_L_expression = some ⟨oc_L_expression, od_L_expression, .func (PySem.W.fnOf "_law_expression" "_law_expression" (defArgs s_L_expression) (defBody s_L_expression) (defScope s_L_expression) .none kV_L_expression dc_L_expression pm_L_expression an_L_expression cd_L_expression ct_L_expression), sl_L_expression⟩) (c_L_expression : PySem.W.codeIn K cd_L_expression "_law_expression" = true) (k_L_expression : PySem.W.keepIn K (.ref f_L_expression) = true)
    (a_L_lowest : PySem.W.nsIn K mainGlobals "_law_lowest" = some (some (.ref f_L_lowest))) (l_L_lowest : K.lookup f_L_lowest = some ⟨oc_L_lowest, od_L_lowest, .func (PySem.W.fnOf "_law_lowest" "_law_lowest" (defArgs s_L_lowest) (defBody s_L_lowest) (defScope s_L_lowest) .none kV_L_lowest dc_L_lowest pm_L_lowest an_L_lowest cd_L_lowest ct_L_lowest), sl_L_lowest⟩) (c_L_lowest : PySem.W.codeIn K cd_L_lowest "_law_lowest" = true) (k_L_lowest : PySem.W.keepIn K (.ref f_L_lowest) = true)
    (a_L_registers : PySem.W.nsIn K mainGlobals "_law_registers" = some (some (.ref f_L_registers))) (l_L_registers : K.lookup f_L_registers = some ⟨oc_L_registers, od_L_registers, .func (PySem.W.fnOf "_law_registers" "_law_registers" (defArgs s_L_registers) (defBody s_L_registers) (defScope s_L_registers) .none kV_L_registers dc_L_registers pm_L_registers an_L_registers cd_L_registers ct_L_registers), sl_L_registers⟩) (c_L_registers : PySem.W.codeIn K cd_L_registers "_law_registers" = true) (k_L_registers : PySem.W.keepIn K (.ref f_L_registers) = true)
    (a_L_few : PySem.W.nsIn K mainGlobals "_law_few" = some (some (.ref f_L_few))) (l_L_few : K.lookup f_L_few = some ⟨oc_L_few, od_L_few, .func (PySem.W.fnOf "_law_few" "_law_few" (defArgs s_L_few) (defBody s_L_few) (defScope s_L_few) .none kV_L_few dc_L_few pm_L_few an_L_few cd_L_few ct_L_few), sl_L_few⟩) (c_L_few : PySem.W.codeIn K cd_L_few "_law_few" = true) (k_L_few : PySem.W.keepIn K (.ref f_L_few) = true)
    (a_L_values : PySem.W.nsIn K mainGlobals "_law_values" = some (some (.ref f_L_values))) (l_L_values : K.lookup f_L_values = some ⟨oc_L_values, od_L_values, .func (PySem.W.fnOf "_law_values" "_law_values" (defArgs s_L_values) (defBody s_L_values) (defScope s_L_values) .none kV_L_values dc_L_values pm_L_values an_L_values cd_L_values ct_L_values), sl_L_values⟩) (c_L_values : PySem.W.codeIn K cd_L_values "_law_values" = true) (k_L_values : PySem.W.keepIn K (.ref f_L_values) = true)
    (a_L_right : PySem.W.nsIn K mainGlobals "_law_right" = some (some (.ref f_L_right))) (l_L_right : K.lookup f_L_right = some ⟨oc_L_right, od_L_right, .func (PySem.W.fnOf "_law_right" "_law_right" (defArgs s_L_right) (defBody s_L_right) (defScope s_L_right) .none kV_L_right dc_L_right pm_L_right an_L_right cd_L_right ct_L_right), sl_L_right⟩) (c_L_right : PySem.W.codeIn K cd_L_right "_law_right" = true) (k_L_right : PySem.W.keepIn K (.ref f_L_right) = true)
    (a_law : PySem.W.nsIn K mainGlobals "law" = some (some (.ref f_law))) (l_law : K.lookup f_law = some ⟨oc_law, od_law, .func (PySem.W.fnOf "law" "law" (defArgs s_law) (defBody s_law) (defScope s_law) .none kV_law dc_law pm_law an_law cd_law ct_law), sl_law⟩) (c_law : PySem.W.codeIn K cd_law "law" = true) (k_law : PySem.W.keepIn K (.ref f_law) = true)
    {d_S : Addr} {es_S : Array DictEntry} {n_S : Nat} (a_S : PySem.W.nsIn K mainGlobals "SHAPES" = some (some (.ref d_S))) (l_S : K.lookup d_S = some ⟨.type "dict", none, .dict es_S n_S, #[]⟩) (k_S : PySem.W.KeysLit w.params es_S.toList)
    {q_fig : Addr} {tod_fig : Option Addr} {its_fig : Array Value} {tm_fig : Nat} {tsl_fig : Array (Option Value)} (n_fig : PySem.W.nsIn K d_S "fig" = some (some (.ref q_fig))) (t_fig : K.lookup q_fig = some ⟨.type "tuple", tod_fig, .seq its_fig tm_fig, tsl_fig⟩) (v_fig : Vals [.str "figure"] its_fig.toList)
    {q_reg : Addr} {tod_reg : Option Addr} {its_reg : Array Value} {tm_reg : Nat} {tsl_reg : Array (Option Value)} (n_reg : PySem.W.nsIn K d_S "reg" = some (some (.ref q_reg))) (t_reg : K.lookup q_reg = some ⟨.type "tuple", tod_reg, .seq its_reg tm_reg, tsl_reg⟩) (v_reg : Vals [.str "place"] its_reg.toList)
    {q_share : Addr} {tod_share : Option Addr} {its_share : Array Value} {tm_share : Nat} {tsl_share : Array (Option Value)} (n_share : PySem.W.nsIn K d_S "share" = some (some (.ref q_share))) (t_share : K.lookup q_share = some ⟨.type "tuple", tod_share, .seq its_share tm_share, tsl_share⟩) (v_share : Vals [.str "sign"] its_share.toList)
    {q_sum : Addr} {tod_sum : Option Addr} {its_sum : Array Value} {tm_sum : Nat} {tsl_sum : Array (Option Value)} (n_sum : PySem.W.nsIn K d_S "sum" = some (some (.ref q_sum))) (t_sum : K.lookup q_sum = some ⟨.type "tuple", tod_sum, .seq its_sum tm_sum, tsl_sum⟩) (v_sum : Vals [.str "part", .str "part"] its_sum.toList)
    {q_less : Addr} {tod_less : Option Addr} {its_less : Array Value} {tm_less : Nat} {tsl_less : Array (Option Value)} (n_less : PySem.W.nsIn K d_S "less" = some (some (.ref q_less))) (t_less : K.lookup q_less = some ⟨.type "tuple", tod_less, .seq its_less tm_less, tsl_less⟩) (v_less : Vals [.str "part", .str "part"] its_less.toList)
    {q_times : Addr} {tod_times : Option Addr} {its_times : Array Value} {tm_times : Nat} {tsl_times : Array (Option Value)} (n_times : PySem.W.nsIn K d_S "times" = some (some (.ref q_times))) (t_times : K.lookup q_times = some ⟨.type "tuple", tod_times, .seq its_times tm_times, tsl_times⟩) (v_times : Vals [.str "factor", .str "part"] its_times.toList)
    {q_by : Addr} {tod_by : Option Addr} {its_by : Array Value} {tm_by : Nat} {tsl_by : Array (Option Value)} (n_by : PySem.W.nsIn K d_S "by" = some (some (.ref q_by))) (t_by : K.lookup q_by = some ⟨.type "tuple", tod_by, .seq its_by tm_by, tsl_by⟩) (v_by : Vals [.str "place", .str "part"] its_by.toList)
    {q_least : Addr} {tod_least : Option Addr} {its_least : Array Value} {tm_least : Nat} {tsl_least : Array (Option Value)} (n_least : PySem.W.nsIn K d_S "least" = some (some (.ref q_least))) (t_least : K.lookup q_least = some ⟨.type "tuple", tod_least, .seq its_least tm_least, tsl_least⟩) (v_least : Vals [.str "part", .str "part"] its_least.toList)
    {q_most : Addr} {tod_most : Option Addr} {its_most : Array Value} {tm_most : Nat} {tsl_most : Array (Option Value)} (n_most : PySem.W.nsIn K d_S "most" = some (some (.ref q_most))) (t_most : K.lookup q_most = some ⟨.type "tuple", tod_most, .seq its_most tm_most, tsl_most⟩) (v_most : Vals [.str "part", .str "part"] its_most.toList)
    {q_when : Addr} {tod_when : Option Addr} {its_when : Array Value} {tm_when : Nat} {tsl_when : Array (Option Value)} (n_when : PySem.W.nsIn K d_S "when" = some (some (.ref q_when))) (t_when : K.lookup q_when = some ⟨.type "tuple", tod_when, .seq its_when tm_when, tsl_when⟩) (v_when : Vals [.str "place", .str "figure", .str "part", .str "part"] its_when.toList)
    {q_where : Addr} {tod_where : Option Addr} {its_where : Array Value} {tm_where : Nat} {tsl_where : Array (Option Value)} (n_where : PySem.W.nsIn K d_S "where" = some (some (.ref q_where))) (t_where : K.lookup q_where = some ⟨.type "tuple", tod_where, .seq its_where tm_where, tsl_where⟩) (v_where : Vals [.str "sign", .str "line", .str "part", .str "part"] its_where.toList)
    (z_len : PySem.W.nsIn K mainGlobals "len" = some none)
    (z_sum : PySem.W.nsIn K mainGlobals "sum" = some none)
    (z_max : PySem.W.nsIn K mainGlobals "max" = some none)
    (z_min : PySem.W.nsIn K mainGlobals "min" = some none)
    (z_abs : PySem.W.nsIn K mainGlobals "abs" = some none)
    (z_int : PySem.W.nsIn K mainGlobals "int" = some none)
    (z_tuple : PySem.W.nsIn K mainGlobals "tuple" = some none)
    (z_range : PySem.W.nsIn K mainGlobals "range" = some none)
    (z_sorted : PySem.W.nsIn K mainGlobals "sorted" = some none)
    (z_zip : PySem.W.nsIn K mainGlobals "zip" = some none)
    (z_isinstance : PySem.W.nsIn K mainGlobals "isinstance" = some none)
    (z_list : PySem.W.nsIn K mainGlobals "list" = some none)
    (z_all : PySem.W.nsIn K mainGlobals "all" = some none)
    (z_repr : PySem.W.nsIn K mainGlobals "repr" = some none)
    (z_str : PySem.W.nsIn K mainGlobals "str" = some none)
    (z_enumerate : PySem.W.nsIn K mainGlobals "enumerate" = some none)
    (z_set : PySem.W.nsIn K mainGlobals "set" = some none)
    : ∃ fd : FuncData, (∀ (s : Shared) (v : Value), BindsTo s fd ⟨[v], []⟩ [("_law_script", v)]) ∧ ∀ base : Heap, K.In base → base.Ns mainGlobals mg → FnOk l.prog w K mg base CX0 10 fa fd ["_law_script"] (spLaw K) := by
  have e := hfa.symm.trans (PySem.W.mg_of X G a_law)
  cases e
  have F_parts := fun_mk (st := s_parts) l_parts c_parts k_parts
  have g_parts := PySem.W.mg_of X G a_parts
  have b_parts := F_parts.binds (ps := ["expression"]) fun _ _ _ _ _ _ us hl => match us, hl with | [_], _ => rfl
  have F_led_part := fun_mk (st := s_led_part) l_led_part c_led_part k_led_part
  have g_led_part := PySem.W.mg_of X G a_led_part
  have b_led_part := F_led_part.binds (ps := ["expression", "registers"]) fun _ _ _ _ _ _ us hl => match us, hl with | [_, _], _ => rfl
  have F_side_part := fun_mk (st := s_side_part) l_side_part c_side_part k_side_part
  have g_side_part := PySem.W.mg_of X G a_side_part
  have b_side_part := F_side_part.binds (ps := ["expression", "shares"]) fun _ _ _ _ _ _ us hl => match us, hl with | [_, _], _ => rfl
  have F_join_worths := fun_mk (st := s_join_worths) l_join_worths c_join_worths k_join_worths
  have g_join_worths := PySem.W.mg_of X G a_join_worths
  have b_join_worths := F_join_worths.binds (ps := ["word", "first", "second"]) fun _ _ _ _ _ _ us hl => match us, hl with | [_, _, _], _ => rfl
  have F_worth := fun_mk (st := s_worth) l_worth c_worth k_worth
  have g_worth := PySem.W.mg_of X G a_worth
  have b_worth := F_worth.binds (ps := ["expression", "registers", "shares"]) fun _ _ _ _ _ _ us hl => match us, hl with | [_, _, _], _ => rfl
  have F_leaves := fun_mk (st := s_leaves) l_leaves c_leaves k_leaves
  have g_leaves := PySem.W.mg_of X G a_leaves
  have b_leaves := F_leaves.binds (ps := ["expression"]) fun _ _ _ _ _ _ us hl => match us, hl with | [_], _ => rfl
  have F_borders := fun_mk (st := s_borders) l_borders c_borders k_borders
  have g_borders := PySem.W.mg_of X G a_borders
  have b_borders := F_borders.binds (ps := ["expression"]) fun _ _ _ _ _ _ us hl => match us, hl with | [_], _ => rfl
  have F_L_hand := fun_mk (st := s_L_hand) l_L_hand c_L_hand k_L_hand
  have g_L_hand := PySem.W.mg_of X G a_L_hand
  have b_L_hand := F_L_hand.binds (ps := ["_law_script", "_law_k"]) fun _ _ _ _ _ _ us hl => match us, hl with | [_, _], _ => rfl
  have F_L_take := fun_mk (st := s_L_take) l_L_take c_L_take k_L_take
  have g_L_take := PySem.W.mg_of X G a_L_take
  have b_L_take := F_L_take.binds (ps := ["_law_hand_here", "_law_many"]) fun _ _ _ _ _ _ us hl => match us, hl with | [_, _], _ => rfl
  have F_L_of := fun_mk (st := s_L_of) l_L_of c_L_of k_L_of
  have g_L_of := PySem.W.mg_of X G a_L_of
  have b_L_of := F_L_of.binds (ps := ["_law_hand_here", "_law_some"]) fun _ _ _ _ _ _ us hl => match us, hl with | [_, _], _ => rfl
  have F_L_figure := fun_mk (st := s_L_figure) l_L_figure c_L_figure k_L_figure
  have g_L_figure := PySem.W.mg_of X G a_L_figure
  have b_L_figure := F_L_figure.binds (ps := ["_law_hand_here"]) fun _ _ _ _ _ _ us hl => match us, hl with | [_], _ => rfl
  have F_L_leaf := fun_mk (st := s_L_leaf) l_L_leaf c_L_leaf k_L_leaf
  have g_L_leaf := PySem.W.mg_of X G a_L_leaf
  have b_L_leaf := F_L_leaf.binds (ps := ["_law_hand_here", "_law_many"]) fun _ _ _ _ _ _ us hl => match us, hl with | [_, _], _ => rfl
  have F_L_expression := fun_mk (st := s_L_expression) l_L_expression c_L_expression k_L_expression
  have g_L_expression := PySem.W.mg_of X G a_L_expression
  have b_L_expression := F_L_expression.binds (ps := ["_law_hand_here", "_law_many", "_law_level", "_law_jumps"]) fun _ _ _ _ _ _ us hl => match us, hl with | [_, _, _, _], _ => rfl
  have F_L_lowest := fun_mk (st := s_L_lowest) l_L_lowest c_L_lowest k_L_lowest
  have g_L_lowest := PySem.W.mg_of X G a_L_lowest
  have b_L_lowest := F_L_lowest.binds (ps := ["_law_row"]) fun _ _ _ _ _ _ us hl => match us, hl with | [_], _ => rfl
  have F_L_registers := fun_mk (st := s_L_registers) l_L_registers c_L_registers k_L_registers
  have g_L_registers := PySem.W.mg_of X G a_L_registers
  have b_L_registers := F_L_registers.binds (ps := ["_law_hand_here"]) fun _ _ _ _ _ _ us hl => match us, hl with | [_], _ => rfl
  have F_L_few := fun_mk (st := s_L_few) l_L_few c_L_few k_L_few
  have g_L_few := PySem.W.mg_of X G a_L_few
  have b_L_few := F_L_few.binds (ps := ["_law_hand_here", "_law_many"]) fun _ _ _ _ _ _ us hl => match us, hl with | [_, _], _ => rfl
  have F_L_values := fun_mk (st := s_L_values) l_L_values c_L_values k_L_values
  have g_L_values := PySem.W.mg_of X G a_L_values
  have b_L_values := F_L_values.binds (ps := ["_law_expression_here", "_law_registers_here", "_law_one", "_law_other", "_law_steps"]) fun _ _ _ _ _ _ us hl => match us, hl with | [_, _, _, _, _], _ => rfl
  have F_L_right := fun_mk (st := s_L_right) l_L_right c_L_right k_L_right
  have g_L_right := PySem.W.mg_of X G a_L_right
  have b_L_right := F_L_right.binds (ps := ["_law_hand_here", "_law_many"]) fun _ _ _ _ _ _ us hl => match us, hl with | [_, _], _ => rfl
  have F_law := fun_mk (st := s_law) l_law c_law k_law
  have g_law := PySem.W.mg_of X G a_law
  have B : Bl mg := ⟨PySem.W.mg_none_of X G z_len, PySem.W.mg_none_of X G z_sum, PySem.W.mg_none_of X G z_max, PySem.W.mg_none_of X G z_min, PySem.W.mg_none_of X G z_abs, PySem.W.mg_none_of X G z_int, PySem.W.mg_none_of X G z_tuple, PySem.W.mg_none_of X G z_range, PySem.W.mg_none_of X G z_sorted, PySem.W.mg_none_of X G z_zip, PySem.W.mg_none_of X G z_isinstance, PySem.W.mg_none_of X G z_list, PySem.W.mg_none_of X G z_all, PySem.W.mg_none_of X G z_repr, PySem.W.mg_none_of X G z_str, PySem.W.mg_none_of X G z_enumerate⟩
  have n_set := PySem.W.mg_none_of X G z_set
  have mg_SHAPES := PySem.W.mg_of X G a_S
  have hSh : Shapes K w d_S := by
    have mk : ∀ (x : Str) (q : Addr) (od : Option Addr) (its : Array Value) (m : Nat) (sl : Array (Option Value)) (ks : List Str), ks.length ≤ 4 → PySem.W.nsIn K d_S x = some (some (.ref q)) → K.lookup q = some ⟨.type "tuple", od, .seq its m, sl⟩ → Vals (ks.map V.str) its.toList → ∃ q, KDct K w d_S x (.ref q) ∧ ∀ H, SqT K H q (ks.map V.str) := fun x q od its m sl ks hk h1 h2 h3 => ⟨q, ⟨es_S, n_S, _, l_S, k_S, h1, rfl⟩, fun H => .inr ⟨_, its, m, h2, rfl, rfl, by
      have h := h3.length
      have e2 : its.toList.length = its.size := Array.length_toList
      have e3 : (ks.map V.str).length = ks.length := List.length_map _
      exact Nat.le_of_lt (small1000 (by omega)), h3⟩⟩
    intro e
    cases e with
    | fig _ => exact mk _ _ _ _ _ _ ["figure"] (by decide) n_fig t_fig v_fig
    | reg _ => exact mk _ _ _ _ _ _ ["place"] (by decide) n_reg t_reg v_reg
    | share _ => exact mk _ _ _ _ _ _ ["sign"] (by decide) n_share t_share v_share
    | times _ _ => exact mk _ _ _ _ _ _ ["factor", "part"] (by decide) n_times t_times v_times
    | «by» _ _ => exact mk _ _ _ _ _ _ ["place", "part"] (by decide) n_by t_by v_by
    | when _ _ _ _ => exact mk _ _ _ _ _ _ ["place", "figure", "part", "part"] (by decide) n_when t_when v_when
    | whr _ _ _ _ => exact mk _ _ _ _ _ _ ["sign", "line", "part", "part"] (by decide) n_where t_where v_where
    | two o _ _ =>
      cases o with
      | sum => exact mk _ _ _ _ _ _ ["part", "part"] (by decide) n_sum t_sum v_sum
      | less => exact mk _ _ _ _ _ _ ["part", "part"] (by decide) n_less t_less v_less
      | least => exact mk _ _ _ _ _ _ ["part", "part"] (by decide) n_least t_least v_least
      | most => exact mk _ _ _ _ _ _ ["part", "part"] (by decide) n_most t_most v_most
  refine ⟨PySem.W.fnOf "law" "law" (defArgs s_law) (defBody s_law) (defScope s_law) .none kV_law dc_law pm_law an_law cd_law ct_law, fun s v => .of_eq rfl, fun base _ _ => ?_⟩
  have c_hand := ok_hand (P := l.prog) (w := w) (base := base) F_L_hand g_L_hand b_L_hand B
  have c_take := ok_take (P := l.prog) (w := w) (base := base) F_L_take g_L_take b_L_take
  have c_of := ok_of F_L_of g_L_of b_L_of B c_take
  have c_figure := ok_figure F_L_figure g_L_figure b_L_figure B c_take c_of
  have c_leaf := ok_leaf F_L_leaf g_L_leaf b_L_leaf B c_take c_figure
  have c_expr := ok_expr F_L_expression g_L_expression b_L_expression B c_take c_of c_figure c_leaf 4
  have c_low := ok_lowE (P := l.prog) (w := w) (base := base) F_L_lowest g_L_lowest b_L_lowest B
  have c_few := ok_few F_L_few g_L_few b_L_few B c_take c_low
  have c_regs := ok_regs F_L_registers g_L_registers b_L_registers B c_figure
  have c_led := ok_led (P := l.prog) (w := w) (base := base) F_led_part g_led_part b_led_part B
  have c_side := ok_side (P := l.prog) (w := w) (base := base) F_side_part g_side_part b_side_part B
  have c_join := ok_joinW (P := l.prog) (w := w) (base := base) F_join_worths g_join_worths b_join_worths B
  have c_worth := ok_worth F_worth g_worth b_worth B c_led c_side c_join 4
  have c_parts := ok_parts (P := l.prog) (w := w) (base := base) F_parts g_parts b_parts B mg_SHAPES hSh
  have c_leaves' := ok_leaves F_leaves g_leaves b_leaves B c_parts
  have c_leaves := c_leaves' 4
  have c_borders := ok_borders F_borders g_borders b_borders B c_parts c_leaves' 4
  have c_values := ok_values F_L_values g_L_values b_L_values B c_low (m := 4) c_worth
  have c_right := ok_right F_L_right g_L_right b_L_right B n_set c_take c_expr c_regs c_few c_values c_borders c_leaves
  exact ok_law F_law B c_hand c_take c_right
end NG
open PySem PySem.W PyProof.Rows
set_option maxHeartbeats 0 in
theorem PySem.Challenge.cw_nonegrowsrich_k07_whole_bends_along_a_wa_holds : PySem.Challenge.rw_nonegrowsrich_k07_whole_bends_along_a_wa.Holds := by
  w_on; o_law; k_head; (case hw => w_witness2)
  k_fill
  refine L2.walk_of (l := PySem.Challenge.rw_nonegrowsrich_k07_whole_bends_along_a_wa) (n := 63) (k := 10) (x := "_law_script") (CX := fun _ => L2.CX0) (sp := fun w => NG.spLaw _) rfl (by decide) rfl ⟨rfl, by decide, by decide⟩ (fun w h Y => PySem.W.kIn_of Y) ?F (fun _ _ a ns hl _ hS => ⟨a, ns, rfl, hS, hl, fun _ => rfl⟩) (fun _ _ _ _ _ h => h)
  case F =>
    intro w mg fa h KX G hmg
    refine' NG.all_mk KX G hmg ?a_parts ?l_parts ?c_parts ?k_parts ?a_led_part ?l_led_part ?c_led_part ?k_led_part ?a_side_part ?l_side_part ?c_side_part ?k_side_part ?a_join_worths ?l_join_worths ?c_join_worths ?k_join_worths ?a_worth ?l_worth ?c_worth ?k_worth ?a_leaves ?l_leaves ?c_leaves ?k_leaves ?a_borders ?l_borders ?c_borders ?k_borders ?a_L_hand ?l_L_hand ?c_L_hand ?k_L_hand ?a_L_take ?l_L_take ?c_L_take ?k_L_take ?a_L_of ?l_L_of ?c_L_of ?k_L_of ?a_L_figure ?l_L_figure ?c_L_figure ?k_L_figure ?a_L_leaf ?l_L_leaf ?c_L_leaf ?k_L_leaf ?a_L_expression ?l_L_expression ?c_L_expression ?k_L_expression ?a_L_lowest ?l_L_lowest ?c_L_lowest ?k_L_lowest ?a_L_registers ?l_L_registers ?c_L_registers ?k_L_registers ?a_L_few ?l_L_few ?c_L_few ?k_L_few ?a_L_values ?l_L_values ?c_L_values ?k_L_values ?a_L_right ?l_L_right ?c_L_right ?k_L_right ?a_law ?l_law ?c_law ?k_law ?a_S ?l_S ?k_S ?n_fig ?t_fig ?v_fig ?n_reg ?t_reg ?v_reg ?n_share ?t_share ?v_share ?n_sum ?t_sum ?v_sum ?n_less ?t_less ?v_less ?n_times ?t_times ?v_times ?n_by ?t_by ?v_by ?n_least ?t_least ?v_least ?n_most ?t_most ?v_most ?n_when ?t_when ?v_when ?n_where ?t_where ?v_where ?z_len ?z_sum ?z_max ?z_min ?z_abs ?z_int ?z_tuple ?z_range ?z_sorted ?z_zip ?z_isinstance ?z_list ?z_all ?z_repr ?z_str ?z_enumerate ?z_set
    (case a_parts => k_is); (case l_parts => k_is); (case c_parts => k_is); (case k_parts => k_is); (case a_led_part => k_is); (case l_led_part => k_is); (case c_led_part => k_is); (case k_led_part => k_is); (case a_side_part => k_is); (case l_side_part => k_is); (case c_side_part => k_is); (case k_side_part => k_is); (case a_join_worths => k_is); (case l_join_worths => k_is); (case c_join_worths => k_is); (case k_join_worths => k_is); (case a_worth => k_is); (case l_worth => k_is); (case c_worth => k_is); (case k_worth => k_is); (case a_leaves => k_is); (case l_leaves => k_is); (case c_leaves => k_is); (case k_leaves => k_is); (case a_borders => k_is); (case l_borders => k_is); (case c_borders => k_is); (case k_borders => k_is); (case a_L_hand => k_is); (case l_L_hand => k_is); (case c_L_hand => k_is); (case k_L_hand => k_is); (case a_L_take => k_is); (case l_L_take => k_is); (case c_L_take => k_is); (case k_L_take => k_is); (case a_L_of => k_is); (case l_L_of => k_is); (case c_L_of => k_is); (case k_L_of => k_is); (case a_L_figure => k_is); (case l_L_figure => k_is); (case c_L_figure => k_is); (case k_L_figure => k_is); (case a_L_leaf => k_is); (case l_L_leaf => k_is); (case c_L_leaf => k_is); (case k_L_leaf => k_is); (case a_L_expression => k_is); (case l_L_expression => k_is); (case c_L_expression => k_is); (case k_L_expression => k_is); (case a_L_lowest => k_is); (case l_L_lowest => k_is); (case c_L_lowest => k_is); (case k_L_lowest => k_is); (case a_L_registers => k_is); (case l_L_registers => k_is); (case c_L_registers => k_is); (case k_L_registers => k_is); (case a_L_few => k_is); (case l_L_few => k_is); (case c_L_few => k_is); (case k_L_few => k_is); (case a_L_values => k_is); (case l_L_values => k_is); (case c_L_values => k_is); (case k_L_values => k_is); (case a_L_right => k_is); (case l_L_right => k_is); (case c_L_right => k_is); (case k_L_right => k_is); (case a_law => k_is); (case l_law => k_is); (case c_law => k_is); (case k_law => k_is); (case a_S => k_is); (case l_S => k_is); (case n_fig => k_is); (case t_fig => k_is); (case n_reg => k_is); (case t_reg => k_is); (case n_share => k_is); (case t_share => k_is); (case n_sum => k_is); (case t_sum => k_is); (case n_less => k_is); (case t_less => k_is); (case n_times => k_is); (case t_times => k_is); (case n_by => k_is); (case t_by => k_is); (case n_least => k_is); (case t_least => k_is); (case n_most => k_is); (case t_most => k_is); (case n_when => k_is); (case t_when => k_is); (case n_where => k_is); (case t_where => k_is); (case z_len => k_is); (case z_sum => k_is); (case z_max => k_is); (case z_min => k_is); (case z_abs => k_is); (case z_int => k_is); (case z_tuple => k_is); (case z_range => k_is); (case z_sorted => k_is); (case z_zip => k_is); (case z_isinstance => k_is); (case z_list => k_is); (case z_all => k_is); (case z_repr => k_is); (case z_str => k_is); (case z_enumerate => k_is); (case z_set => k_is)
    (case k_S => repeat (first | exact trivial | refine ⟨⟨_, _, rfl, rfl⟩, ?_⟩))
    (case v_fig => exact .cons ⟨_, rfl⟩ (.nil))
    (case v_reg => exact .cons ⟨_, rfl⟩ (.nil))
    (case v_share => exact .cons ⟨_, rfl⟩ (.nil))
    (case v_sum => exact .cons ⟨_, rfl⟩ (.cons ⟨_, rfl⟩ (.nil)))
    (case v_less => exact .cons ⟨_, rfl⟩ (.cons ⟨_, rfl⟩ (.nil)))
    (case v_times => exact .cons ⟨_, rfl⟩ (.cons ⟨_, rfl⟩ (.nil)))
    (case v_by => exact .cons ⟨_, rfl⟩ (.cons ⟨_, rfl⟩ (.nil)))
    (case v_least => exact .cons ⟨_, rfl⟩ (.cons ⟨_, rfl⟩ (.nil)))
    (case v_most => exact .cons ⟨_, rfl⟩ (.cons ⟨_, rfl⟩ (.nil)))
    (case v_when => exact .cons ⟨_, rfl⟩ (.cons ⟨_, rfl⟩ (.cons ⟨_, rfl⟩ (.cons ⟨_, rfl⟩ (.nil)))))
    (case v_where => exact .cons ⟨_, rfl⟩ (.cons ⟨_, rfl⟩ (.cons ⟨_, rfl⟩ (.cons ⟨_, rfl⟩ (.nil)))))

