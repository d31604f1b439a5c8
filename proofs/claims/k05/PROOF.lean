import PyProof.Rows.All
import Wide.All
import OpenK.AllK
import Wide.FinOn
import HandS.Base
import HandS.Call
import HandS.List
import HandS.Comp
import HandS.Ends
import HandS.Dict
import HandS.Iter
import HandS.Text
import HandS.Words
import HandS.WordsList
import HandS.WordsDict
import HandS.Conv
import HandS.Codes
import HandS.Wide
import HandS.Style
import KE.KTupSum
import HandS.Walk
import PyProof.ReprRoads
import PyProof.ReprLen
import HandS.More
import HandS.Zip
import HandS.IsInst
import HandS.NoneIn
import KE.KRevSl
import HandS.DeepEq
import PySem.Challenge.RW_nonegrowsrich_k05_worths_thing_by_thing
set_option Elab.async false
set_option linter.all false
set_option maxRecDepth 100000
set_option maxHeartbeats 4000000
namespace NG
open PySem PySem.Spec PyProof.Rows L2

/-! ### sum of a tuple -/
theorem cr_sumT {X : Cx} (hc : X.calm = true) : CallR X (.builtin "sum") (fun vs H Q => ∃ (a : Addr) (ns : List Int), vs = [V.ref a] ∧ SqT X.K H a (ns.map V.int) ∧ Q (.int ns.sum) H) := by
  intro pins s σ H vs us Q I r h
  obtain ⟨a, ns, rfl, hs, q⟩ := h
  obtain ⟨its, rv, hl, _⟩ := I.tuple hs
  rw [Vals.ref1 r]
  have hi := rv.ints
  obtain ⟨xs, e⟩ := hi.allInts.items
  have hn : numsOf (intItems xs).toList = ns := by rw [← e]; exact hi.numsOf
  rw [nums_intItems] at hn
  rw [e] at hl
  refine PySem.W.ktm_sumG (I.ok.hd hc) hl fun h' tk t' hk => ?_
  rw [preSum_eq, List.take_of_length_le (by simp), hn]
  exact ⟨.int _, H, I.kept hk, ⟨_, rfl⟩, q⟩

/-! ### rules whose reading names the written part, for a comprehension's block -/
theorem ixl {X : Cx} (K : PySem.W.Frag) (h : X.K = K := by rfl) : IxR X (rIxL K) := by
  subst h
  exact ix_list
theorem ixt {X : Cx} (K : PySem.W.Frag) (h : X.K = K := by rfl) : IxR X (rIxT K) := by
  subst h
  exact ix_tup
theorem lenK {X : Cx} (K : PySem.W.Frag) (h : X.K = K := by rfl) : CallR X (.builtin "len") (fun xs H Q => ∃ p ys, xs = [.ref p] ∧ (SqL K H p ys ∨ SqT K H p ys) ∧ Q (.int ys.length) H) := by
  subst h
  exact call_len_seq
theorem sumT {X : Cx} (K : PySem.W.Frag) (hc : X.calm = true) (h : X.K = K := by rfl) : CallR X (.builtin "sum") (fun vs H Q => ∃ (a : Addr) (ns : List Int), vs = [V.ref a] ∧ SqT K H a (ns.map V.int) ∧ Q (.int ns.sum) H) := by
  subst h
  exact cr_sumT hc
theorem sumL {X : Cx} (K : PySem.W.Frag) (hc : X.calm = true) (h : X.K = K := by rfl) : CallR X (.builtin "sum") (rSum K) := by
  subst h
  exact cr_sum hc

/-! ### short words -/
theorem iteFF {c : Bool} {A B : Prop} (hc : c = false) (h : B) : if c = true then A else B := by
  subst hc
  exact iteF h
theorem iteTT {c : Bool} {A B : Prop} (hc : c = true) (h : A) : if c = true then A else B := by
  subst hc
  exact iteT h
theorem iteD {p : Prop} [Decidable p] {A B : Prop} (h1 : p → A) (h2 : ¬ p → B) : if decide p = true then A else B := by
  by_cases h : p
  · rw [decide_eq_true h]
    exact iteT (h1 h)
  · rw [decide_eq_false h]
    exact iteF (h2 h)
theorem at_mem {xs : List V} {i : Int} (h0 : 0 ≤ i) (h1 : i < xs.length) : ∃ v, atI xs i = some v ∧ v ∈ xs := by
  have hj : i.toNat < xs.length := by omega
  refine ⟨xs[i.toNat], ?_, List.getElem_mem hj⟩
  exact at_of (j := i.toNat) (by omega) (List.getElem?_eq_getElem hj)
theorem at_int {ns : List Int} {i : Int} (h0 : 0 ≤ i) (h1 : i < ns.length) : atI (ns.map V.int) i = some (.int (ns.getD i.toNat 0)) := by
  have hj : i.toNat < ns.length := by omega
  refine at_of (j := i.toNat) (by omega) ?_
  rw [List.getElem?_map, List.getElem?_eq_getElem hj, List.getD_eq_getElem?_getD, List.getElem?_eq_getElem hj]
  rfl

/-- an expression, with a word behind it -/
def tCutE (t : TE) : TE := fun σ H Q => ∃ M : VK, t σ H M ∧ ∀ v H', M v H' → Q v H'
theorem pe_cut {X : Cx} {e : Expr} {t : TE} (h : PE X e t) : PE X e (tCutE t) :=
  ⟨fun pins s σ H Q I ⟨M, hm, hq⟩ => thn (h.run pins s σ H M I hm) fun u s1 ⟨x, H1, I1, r, q⟩ => ⟨x, H1, I1, r, hq _ _ q⟩⟩

/-! ### heaps: all but one object is as it was -/
def But (a : Addr) (H H' : Hp) : Prop := ∀ b o, b ≠ a → H b = some o → H' b = some o
theorem But.refl (a : Addr) (H : Hp) : But a H H := fun _ _ _ h => h
theorem But.trans {a : Addr} {H H1 H2 : Hp} (x : But a H H1) (y : But a H1 H2) : But a H H2 := fun b o n h => y b o n (x b o n h)
theorem But.of {a : Addr} {H H' : Hp} (x : Same H H') : But a H H' := fun b o _ h => x b o h
theorem But.new {a p : Addr} {H : Hp} {o : HO} (h : H p = none) : But a H (upd H p o) := fun b u _ e => by
  rw [upd_ne (ne_of_none e h)]
  exact e
theorem But.put {a : Addr} {H : Hp} {o : HO} : But a H (upd H a o) := fun b u n e => by
  rw [upd_ne n]
  exact e
theorem But.same {a : Addr} {H H' : Hp} (x : But a H H') (h : H a = none) : Same H H' := fun b o e => x b o (ne_of_none e h) e
theorem same_new {p : Addr} {H : Hp} {o : HO} (h : H p = none) : Same H (upd H p o) := fun b u e => by
  rw [upd_ne (ne_of_none e h)]
  exact e
theorem But.free {a b : Addr} {H H' : Hp} {o : HO} (x : But a H H') (h : H a = some o) (n : H' b = none) (n2 : H' a ≠ none) : H b = none := by
  cases q : H b with
  | none => rfl
  | some u =>
    by_cases e : b = a
    · subst e
      exact absurd n n2
    · rw [x b u e q] at n
      cases n
theorem But.sqt {a p : Addr} {H H' : Hp} {K : PySem.W.Frag} {l xs : List V} (x : But a H H') (h : H a = some (.lst l)) (q : SqT K H p xs) : SqT K H' p xs := by
  rcases q with (q | ⟨o, q⟩) | q
  · exact .inl (.inl (x _ _ (ne_of q h (by intro z; cases z)) q))
  · exact .inl (.inr ⟨o, x _ _ (ne_of q h (by intro z; cases z)) q⟩)
  · exact .inr q
theorem same_sqt {p : Addr} {H H' : Hp} {K : PySem.W.Frag} {xs : List V} (x : Same H H') (q : SqT K H p xs) : SqT K H' p xs := by
  rcases q with (q | ⟨o, q⟩) | q
  · exact .inl (.inl (x _ _ q))
  · exact .inl (.inr ⟨o, x _ _ q⟩)
  · exact .inr q

/-! ### the hand -/
def HandAt (H : Hp) (a : Addr) (n : Nat) : Prop := ∃ g s m : Int, H a = some (.lst [.int g, .int s, .int m]) ∧ 0 ≤ g ∧ 0 ≤ s ∧ 0 ≤ m ∧ m ≤ n
theorem HandAt.le {H : Hp} {a : Addr} {n k : Nat} (h : HandAt H a n) (l : n ≤ k) : HandAt H a k := by
  obtain ⟨g, s, m, e, h1, h2, h3, h4⟩ := h
  exact ⟨g, s, m, e, h1, h2, h3, by omega⟩
theorem HandAt.new {H : Hp} {a p : Addr} {n : Nat} {o : HO} (h : HandAt H a n) (hp : H p = none) : HandAt (upd H p o) a n := by
  obtain ⟨g, s, m, e, h1, h2, h3, h4⟩ := h
  exact ⟨g, s, m, by rw [upd_ne (ne_of_none e hp)]; exact e, h1, h2, h3, h4⟩
theorem HandAt.put {H : Hp} {a p : Addr} {n : Nat} {o : HO} (h : HandAt H a n) (hp : p ≠ a) : HandAt (upd H p o) a n := by
  obtain ⟨g, s, m, e, h1, h2, h3, h4⟩ := h
  exact ⟨g, s, m, by rw [upd_ne (Ne.symm hp)]; exact e, h1, h2, h3, h4⟩
theorem HandAt.ne {H : Hp} {a p : Addr} {n : Nat} (h : HandAt H a n) (hp : H p = none) : p ≠ a := by
  obtain ⟨g, s, m, e, _⟩ := h
  exact (ne_of_none e hp).symm
theorem HandAt.some {H : Hp} {a : Addr} {n : Nat} (h : HandAt H a n) : ∃ l, H a = some (.lst l) := by
  obtain ⟨g, s, m, e, _⟩ := h
  exact ⟨_, e⟩
theorem But.sq {a p : Addr} {H H' : Hp} {K : PySem.W.Frag} {n : Nat} {xs : List V} (x : But a H H') (h : HandAt H a n) (q : SqT K H p xs) : SqT K H' p xs := by
  obtain ⟨l, e⟩ := h.some
  exact x.sqt e q

structure Bl (mg : Str → Option Value) : Prop where
  len : mg "len" = none
  sum : mg "sum" = none
  max : mg "max" = none
  min : mg "min" = none
  abs : mg "abs" = none
  int : mg "int" = none
  tuple : mg "tuple" = none
  range : mg "range" = none
  sorted : mg "sorted" = none
  zip : mg "zip" = none
  isinstance : mg "isinstance" = none
  list : mg "list" = none
  all : mg "all" = none
  repr : mg "repr" = none
  str : mg "str" = none
  enumerate : mg "enumerate" = none

/-! ### a def that may be called by its name -/
structure Cal (P : Program) (w : World) (K : PySem.W.Frag) (mg : Str → Option Value) (base : Heap) (k : Nat) (x : Str) (sp : Sp) : Prop where
  ex : ∃ (f : Addr) (fd : FuncData) (ps : List Str), FnOk P w K mg base CX0 k f fd ps sp ∧ mg x = some (.ref f) ∧ PySem.W.keepIn K (.ref f) = true ∧ Binds K fd ps []
section
variable {X : Cx} {k j : Nat} {x : Str} {sp : Sp} {p pos : Pos} {e : Expr} {es : List Expr} {t : TA}
theorem pe_c (c : Cal X.prog X.w X.K X.mg X.base k x sp) (hr : Room j X.A) (hk : k ≤ j) (hg : Gl X x) (ha : PA X (e :: es) t)
    (hdb : (x == ("__debug__" : Str)) = false := by decide) (he : starEach (e :: es) X.env = (false, eval e X.env) :: starEach es X.env := by rfl) (hpl : (backTo pos (starEach es X.env)).any (·.1) = false := by rfl) :
    PE X (.Call (.Name x p) (e :: es) [] pos) (tCall sp [] E0 t) := by
  obtain ⟨f, fd, ps, F, hm, kp, b⟩ := c.ex
  exact pe_call F (hr.mono hk) hg hm kp b .nil pass0 ha hdb he hpl
end
theorem Cal.mono {P : Program} {w : World} {K : PySem.W.Frag} {mg : Str → Option Value} {base : Heap} {j k : Nat} {x : Str} {sp : Sp} (c : Cal P w K mg base j x sp) (h : j ≤ k) : Cal P w K mg base k x sp := by
  obtain ⟨f, fd, ps, F, r⟩ := c.ex
  exact ⟨f, fd, ps, F.mono h, r⟩

/-! ### promises of the draws -/
def spTake : Sp := fun vs H Q _ => ∃ (a : Addr) (many : Int) (n : Nat), vs = [.ref a, .int many] ∧ 0 < many ∧ many < 2 ^ 62 ∧ HandAt H a n ∧ n ≤ 1000000000 ∧
  ∀ H' r, But a H H' → HandAt H' a (n + 1) → 0 ≤ r → r < many → Q (.int r) H'
def spHand (K : PySem.W.Frag) : Sp := fun vs H Q _ => ∃ (a : Addr) (k : Int) (ns : List Int), vs = [.ref a, .int k] ∧ 0 ≤ k ∧ k < 1000 ∧ SqL K H a (ns.map V.int) ∧
  ∀ p g s, H p = none → 0 ≤ g → 0 ≤ s → Q (.ref p) (upd H p (.lst [.int g, .int s, .int 0]))
/-- an item of a list that is given -/
def spOf (K : PySem.W.Frag) : Sp := fun vs H Q _ => ∃ (a b : Addr) (xs : List V) (n : Nat), vs = [.ref a, .ref b] ∧ a ≠ b ∧ H b = some (.lst xs) ∧ 0 < xs.length ∧ xs.length ≤ 1000 ∧ HandAt H a n ∧ n ≤ 1000000000 ∧
  ∀ H' v, But a H H' → HandAt H' a (n + 1) → v ∈ xs → Q v H'
def spFigure : Sp := fun vs H Q _ => ∃ (a : Addr) (n : Nat), vs = [.ref a] ∧ HandAt H a n ∧ n ≤ 999999990 ∧
  ∀ H' c, But a H H' → HandAt H' a (n + 3) → -1000 ≤ c → c ≤ 1000 → Q (.int c) H'
end NG

namespace NG
open PySem PySem.Spec PyProof.Rows L2

/-! ### expressions -/
inductive W4 where
  | sum | less | least | most
  deriving DecidableEq
def wn : W4 → Str
  | .sum => "sum"
  | .less => "less"
  | .least => "least"
  | .most => "most"
inductive Ex where
  | fig (c : Int) | reg (i : Nat) | share (j : Nat)
  | two (w : W4) (a b : Ex)
  | times (f : Int) (a : Ex) | by (i : Nat) (a : Ex)
  | when (i : Nat) (c : Int) (a b : Ex) | whr (j : Nat) (c : Int) (a b : Ex)
def ExAt (K : PySem.W.Frag) (H : Hp) : Ex → V → Prop
  | .fig c, v => ∃ p, v = .ref p ∧ SqT K H p [.str "fig", .int c]
  | .reg i, v => ∃ p, v = .ref p ∧ SqT K H p [.str "reg", .int (i : Int)]
  | .share j, v => ∃ p, v = .ref p ∧ SqT K H p [.str "share", .int (j : Int)]
  | .two w a b, v => ∃ p x y, v = .ref p ∧ SqT K H p [.str (wn w), x, y] ∧ ExAt K H a x ∧ ExAt K H b y
  | .times f a, v => ∃ p x, v = .ref p ∧ SqT K H p [.str "times", .int f, x] ∧ ExAt K H a x
  | .by i a, v => ∃ p x, v = .ref p ∧ SqT K H p [.str "by", .int (i : Int), x] ∧ ExAt K H a x
  | .when i c a b, v => ∃ p x y, v = .ref p ∧ SqT K H p [.str "when", .int (i : Int), .int c, x, y] ∧ ExAt K H a x ∧ ExAt K H b y
  | .whr j c a b, v => ∃ p x y, v = .ref p ∧ SqT K H p [.str "where", .int (j : Int), .int c, x, y] ∧ ExAt K H a x ∧ ExAt K H b y
theorem ExAt.imp {K : PySem.W.Frag} {H H' : Hp} (h : ∀ p xs, SqT K H p xs → SqT K H' p xs) : ∀ {e : Ex} {v : V}, ExAt K H e v → ExAt K H' e v
  | .fig _, _, ⟨p, e, q⟩ => ⟨p, e, h _ _ q⟩
  | .reg _, _, ⟨p, e, q⟩ => ⟨p, e, h _ _ q⟩
  | .share _, _, ⟨p, e, q⟩ => ⟨p, e, h _ _ q⟩
  | .two _ _ _, _, ⟨p, x, y, e, q, a, b⟩ => ⟨p, x, y, e, h _ _ q, ExAt.imp h a, ExAt.imp h b⟩
  | .times _ _, _, ⟨p, x, e, q, a⟩ => ⟨p, x, e, h _ _ q, ExAt.imp h a⟩
  | .by _ _, _, ⟨p, x, e, q, a⟩ => ⟨p, x, e, h _ _ q, ExAt.imp h a⟩
  | .when _ _ _ _, _, ⟨p, x, y, e, q, a, b⟩ => ⟨p, x, y, e, h _ _ q, ExAt.imp h a, ExAt.imp h b⟩
  | .whr _ _ _ _, _, ⟨p, x, y, e, q, a, b⟩ => ⟨p, x, y, e, h _ _ q, ExAt.imp h a, ExAt.imp h b⟩
theorem ExAt.but {K : PySem.W.Frag} {H H' : Hp} {a : Addr} {n : Nat} {e : Ex} {v : V} (x : ExAt K H e v) (b : But a H H') (h : HandAt H a n) : ExAt K H' e v := x.imp fun _ _ q => b.sq h q
theorem ExAt.same {K : PySem.W.Frag} {H H' : Hp} {e : Ex} {v : V} (x : ExAt K H e v) (b : Same H H') : ExAt K H' e v := x.imp fun _ _ q => same_sqt b q
theorem ExAt.new {K : PySem.W.Frag} {H : Hp} {p : Addr} {o : HO} {e : Ex} {v : V} (x : ExAt K H e v) (n : H p = none) : ExAt K (upd H p o) e v := x.same (same_new n)
def ExOk (many : Nat) : Ex → Prop
  | .fig c => -1000 ≤ c ∧ c ≤ 1000
  | .reg i => i < 4
  | .share j => j < many
  | .two _ a b => ExOk many a ∧ ExOk many b
  | .times f a => (-9 ≤ f ∧ f ≤ 9) ∧ ExOk many a
  | .by i a => i < 4 ∧ ExOk many a
  | .when i c a b => i < 4 ∧ (-1000 ≤ c ∧ c ≤ 1000) ∧ ExOk many a ∧ ExOk many b
  | .whr j c a b => j < many ∧ (1 ≤ c ∧ c ≤ 1000) ∧ ExOk many a ∧ ExOk many b
def Ex.dep : Ex → Nat
  | .fig _ => 1
  | .reg _ => 1
  | .share _ => 1
  | .two _ a b => max a.dep b.dep + 1
  | .times _ a => a.dep + 1
  | .by _ a => a.dep + 1
  | .when _ _ a b => max a.dep b.dep + 1
  | .whr _ _ a b => max a.dep b.dep + 1
def jw : W4 → Int → Int → Int
  | .sum, x, y => x + y
  | .less, x, y => x - y
  | .least, x, y => if y < x then y else x
  | .most, x, y => if y > x then y else x
def wo (rs ss : List Int) : Ex → Int
  | .fig c => c * ss.sum
  | .reg i => rs.getD i 0 * ss.sum
  | .share j => 1000 * ss.getD j 0
  | .two w a b => jw w (wo rs ss a) (wo rs ss b)
  | .times f a => f * wo rs ss a
  | .by i a => rs.getD i 0 * wo rs ss a
  | .when i c a b => if rs.getD i 0 < c then wo rs ss a else wo rs ss b
  | .whr j c a b => if 1000 * ss.getD j 0 < c * ss.sum then wo rs ss a else wo rs ss b
theorem at_nth {ns : List Int} {i : Nat} (h : i < ns.length) : atI (ns.map V.int) (i : Int) = some (.int (ns.getD i 0)) := at_int (by omega) (by omega)

def RegsAt (K : PySem.W.Frag) (H : Hp) (rs : List Int) (v : V) : Prop := ∃ p, v = .ref p ∧ SqT K H p (rs.map V.int) ∧ rs.length = 4 ∧ ∀ x ∈ rs, -1000 ≤ x ∧ x ≤ 1000
def ShAt (K : PySem.W.Frag) (H : Hp) (many : Nat) (ss : List Int) (v : V) : Prop := ∃ p, v = .ref p ∧ SqT K H p (ss.map V.int) ∧ ss.length = many ∧ (∀ x ∈ ss, 0 ≤ x ∧ x < 2 ^ 50) ∧ 0 < ss.sum ∧ ss.sum < 2 ^ 60
theorem RegsAt.imp {K : PySem.W.Frag} {H H' : Hp} {rs : List Int} {v : V} (r : RegsAt K H rs v) (h : ∀ p xs, SqT K H p xs → SqT K H' p xs) : RegsAt K H' rs v := by
  obtain ⟨p, e, q, l⟩ := r
  exact ⟨p, e, h _ _ q, l⟩
theorem ShAt.imp {K : PySem.W.Frag} {H H' : Hp} {many : Nat} {rs : List Int} {v : V} (r : ShAt K H many rs v) (h : ∀ p xs, SqT K H p xs → SqT K H' p xs) : ShAt K H' many rs v := by
  obtain ⟨p, e, q, l⟩ := r
  exact ⟨p, e, h _ _ q, l⟩
theorem getD_mem {ns : List Int} {i : Nat} (h : i < ns.length) : ns.getD i 0 ∈ ns := by
  rw [List.getD_eq_getElem?_getD, List.getElem?_eq_getElem h]
  exact List.getElem_mem h

/-! ### promises -/
def spWorth (K : PySem.W.Frag) (n : Nat) : Sp := fun vs H Q _ => ∃ (v r s : V) (e : Ex) (many : Nat) (rs ss : List Int), vs = [v, r, s] ∧ ExAt K H e v ∧ ExOk many e ∧ e.dep ≤ n ∧ RegsAt K H rs r ∧ ShAt K H many ss s ∧ Q (.int (wo rs ss e)) H
def spJoinW : Sp := fun vs H Q _ => ∃ (w : W4) (x y : Int), vs = [.str (wn w), .int x, .int y] ∧ Q (.int (jw w x y)) H
def spLed (K : PySem.W.Frag) : Sp := fun vs H Q _ => ∃ (p : Addr) (r x y : V) (i : Nat) (c : Int) (rs : List Int), vs = [.ref p, r] ∧ SqT K H p [.str "when", .int (i : Int), .int c, x, y] ∧ i < 4 ∧ RegsAt K H rs r ∧ Q (if rs.getD i 0 < c then x else y) H
def spSide (K : PySem.W.Frag) : Sp := fun vs H Q _ => ∃ (p : Addr) (s x y : V) (many j : Nat) (c : Int) (ss : List Int), vs = [.ref p, s] ∧ SqT K H p [.str "where", .int (j : Int), .int c, x, y] ∧ j < many ∧ (1 ≤ c ∧ c ≤ 1000) ∧ ShAt K H many ss s ∧ Q (if 1000 * ss.getD j 0 < c * ss.sum then x else y) H
def spMills (K : PySem.W.Frag) : Sp := fun vs H Q _ => ∃ (s : V) (many j : Nat) (ss : List Int), vs = [s, .int (j : Int)] ∧ ShAt K H many ss s ∧ j < many ∧ Q (.int (1000 * ss.getD j 0 / ss.sum)) H
def cost : Nat → Nat
  | 0 => 6
  | n + 1 => 2 * cost n + 20
theorem cost_ge (l : Nat) : 6 ≤ cost l := by
  cases l with
  | zero => exact Nat.le_refl _
  | succ l =>
    unfold cost
    omega
def spLeaf (K : PySem.W.Frag) : Sp := fun vs H Q _ => ∃ (a : Addr) (many n : Nat), vs = [.ref a, .int (many : Int)] ∧ 1 ≤ many ∧ many ≤ 1000 ∧ HandAt H a n ∧ n ≤ 999999000 ∧
  ∀ H' v e, But a H H' → HandAt H' a (n + 5) → ExAt K H' e v → ExOk many e → e.dep ≤ 1 → Q v H'
def spExpr (K : PySem.W.Frag) (m : Nat) : Sp := fun vs H Q _ => ∃ (a : Addr) (many l n : Nat), vs = [.ref a, .int (many : Int), .int (l : Int), .int 1] ∧ l < m ∧ 1 ≤ many ∧ many ≤ 1000 ∧ HandAt H a n ∧ n + cost l ≤ 999999000 ∧
  ∀ H' v e, But a H H' → HandAt H' a (n + cost l) → ExAt K H' e v → ExOk many e → e.dep ≤ l + 1 → Q v H'
theorem cal_never {P : Program} {w : World} {K : PySem.W.Frag} {mg : Str → Option Value} {base : Heap} {k : Nat} {x qual : Str} {st : Stmt} {f : Addr} {fd : FuncData} {ps : List Str} {sp : Sp} (F : Fun K x qual st f fd) (gF : mg x = some (.ref f)) (b : Binds K fd ps []) (h : ∀ vs H Q E, ¬ sp vs H Q E) : Cal P w K mg base k x sp :=
  ⟨f, fd, ps, ⟨fun vs H Q E q => absurd q (h _ _ _ _), fun A outer s H args us vs Q E _ _ _ _ q => absurd q (h _ _ _ _)⟩, gF, F.kp, b⟩
theorem fn_never {P : Program} {w : World} {K : PySem.W.Frag} {mg : Str → Option Value} {base : Heap} {k : Nat} {f : Addr} {fd : FuncData} {ps : List Str} {sp : Sp} (h : ∀ vs H Q E, ¬ sp vs H Q E) : FnOk P w K mg base CX0 k f fd ps sp :=
  ⟨fun vs H Q E q => absurd q (h _ _ _ _), fun A outer s H args us vs Q E _ _ _ _ q => absurd q (h _ _ _ _)⟩
end NG

namespace NG
open PySem PySem.Spec PyProof.Rows L2

/-! ### the greatest that divides all -/
def gf (g : Nat) (x : Int) : Nat := Nat.gcd g x.toNat
def gl (ns : List Int) : Nat := ns.foldl gf 0
theorem gl_step {ns : List Int} {i : Nat} {x : Int} (h : ns[i]? = some x) : gl (ns.take (i + 1)) = Nat.gcd (gl (ns.take i)) x.toNat := by
  unfold gl
  rw [List.take_add_one, h, List.foldl_append]
  rfl
theorem gf_dvd : ∀ (ns : List Int) (g : Nat), ns.foldl gf g ∣ g ∧ ∀ x ∈ ns, ns.foldl gf g ∣ x.toNat
  | [], g => ⟨Nat.dvd_refl _, fun x h => by cases h⟩
  | y :: ns, g => by
    obtain ⟨h1, h2⟩ := gf_dvd ns (gf g y)
    refine ⟨Nat.dvd_trans h1 (Nat.gcd_dvd_left _ _), fun x hx => ?_⟩
    rcases List.mem_cons.mp hx with rfl | hx
    · exact Nat.dvd_trans h1 (Nat.gcd_dvd_right _ _)
    · exact h2 x hx
theorem gl_dvd {ns : List Int} {x : Int} (h : x ∈ ns) : gl ns ∣ x.toNat := (gf_dvd ns 0).2 x h
theorem gl_pos {ns : List Int} {x : Int} (h : x ∈ ns) (p : 0 < x) : 0 < gl ns := Nat.pos_of_dvd_of_pos (gl_dvd h) (by omega)
theorem sum_nonneg : ∀ {ms : List Int}, (∀ x ∈ ms, 0 ≤ x) → 0 ≤ ms.sum
  | [], _ => by simp
  | y :: ms, h => by
    have := sum_nonneg (ms := ms) fun x hx => h x (List.mem_cons_of_mem _ hx)
    have := h y List.mem_cons_self
    rw [List.sum_cons]
    omega
theorem sum_pos : ∀ {ms : List Int} {x : Int}, (∀ x ∈ ms, 0 ≤ x) → x ∈ ms → 0 < x → 0 < ms.sum
  | y :: ms, x, h, hx, p => by
    have h1 := sum_nonneg (ms := ms) fun x hx => h x (List.mem_cons_of_mem _ hx)
    have h2 := h y List.mem_cons_self
    rw [List.sum_cons]
    rcases List.mem_cons.mp hx with rfl | hx
    · omega
    · have := sum_pos (ms := ms) (fun x hx => h x (List.mem_cons_of_mem _ hx)) hx p
      omega
theorem sum_le {B : Int} : ∀ {ms : List Int}, (∀ x ∈ ms, x ≤ B) → ms.sum ≤ ms.length * B
  | [], _ => by simp
  | y :: ms, h => by
    have h1 := sum_le (ms := ms) fun x hx => h x (List.mem_cons_of_mem _ hx)
    have h2 := h y List.mem_cons_self
    rw [List.sum_cons, List.length_cons, Int.natCast_succ, Int.add_mul]
    omega
theorem div_le_self' {x : Int} {g : Nat} (h : 0 ≤ x) : x / (g : Int) ≤ x := Int.ediv_le_self _ h
/-- what lowest makes -/
def low (ns : List Int) : List Int := ns.map fun x => x / (gl ns : Int)
theorem low_sh {ns : List Int} (hb : ∀ x ∈ ns, 0 ≤ x ∧ x < 2 ^ 50) (hl : ns.length ≤ 1000) {y : Int} (hy : y ∈ ns) (py : 0 < y) :
    (∀ x ∈ low ns, 0 ≤ x ∧ x < 2 ^ 50) ∧ 0 < (low ns).sum ∧ (low ns).sum < 2 ^ 60 := by
  have hg := gl_pos hy py
  have h1 : ∀ x ∈ low ns, 0 ≤ x ∧ x < 2 ^ 50 := fun x hx => by
    obtain ⟨z, hz, rfl⟩ := List.mem_map.mp hx
    have h2 := hb z hz
    exact ⟨Int.ediv_nonneg h2.1 (by omega), Int.lt_of_le_of_lt (div_le_self' h2.1) h2.2⟩
  refine ⟨h1, ?_, ?_⟩
  · refine sum_pos (x := y / (gl ns : Int)) (fun x hx => (h1 x hx).1) (List.mem_map.mpr ⟨y, hy, rfl⟩) ?_
    have hd : (gl ns : Nat) ≤ y.toNat := Nat.le_of_dvd (by omega) (gl_dvd hy)
    exact Int.ediv_pos_of_pos_of_dvd py (by omega) (by
      have : ((gl ns : Nat) : Int) ∣ ((y.toNat : Nat) : Int) := Int.natCast_dvd_natCast.mpr (gl_dvd hy)
      rwa [Int.toNat_of_nonneg (by omega)] at this)
  · have h3 := sum_le (B := 2 ^ 50) (ms := low ns) fun x hx => Int.le_of_lt (h1 x hx).2
    have h4 : (low ns).length ≤ 1000 := by
      unfold low
      rw [List.length_map]
      exact hl
    have h5 : ((low ns).length : Int) * 2 ^ 50 ≤ 1000 * 2 ^ 50 := Int.mul_le_mul_of_nonneg_right (by omega) (by decide)
    have h6 : (1000 : Int) * 2 ^ 50 < 2 ^ 60 := by decide
    omega
theorem gcd_turn {u v : Nat} : Nat.gcd v (u % v) = Nat.gcd u v := by
  rw [Nat.gcd_comm v, ← Nat.gcd_rec, Nat.gcd_comm]
theorem ixN_of {n : Nat} {r : Int} (h0 : 0 ≤ r) (h1 : r < n) : ixN n r = some r.toNat := by
  unfold ixN
  rw [if_pos h0, if_pos h1]

theorem tYes_in {σ : L2.St} {H : Hp} {A B : Hp → Prop} (h : A H) : tYes σ H (fun b H3 => if b = true then A H3 else B H3) := by
  show if true = true then A H else B H
  exact iteT h

/-! ### promises -/
def spLow (K : PySem.W.Frag) : Sp := fun vs H Q _ => ∃ (p : Addr) (ns : List Int) (y : Int), vs = [.ref p] ∧ H p = some (.lst (ns.map V.int)) ∧ (∀ x ∈ ns, 0 ≤ x ∧ x < 2 ^ 50) ∧ ns.length ≤ 1000 ∧ y ∈ ns ∧ 0 < y ∧
  ∀ H' v ms, Same H H' → ShAt K H' ns.length ms v → Q v H'
def spShares (K : PySem.W.Frag) : Sp := fun vs H Q _ => ∃ (a : Addr) (many n : Nat), vs = [.ref a, .int (many : Int)] ∧ 1 ≤ many ∧ many ≤ 3 ∧ HandAt H a n ∧ n ≤ 999998000 ∧
  ∀ H' v ms, But a H H' → HandAt H' a (n + 20) → ShAt K H' many ms v → Q v H'
def spRegs (K : PySem.W.Frag) : Sp := fun vs H Q _ => ∃ (a : Addr) (n : Nat), vs = [.ref a] ∧ HandAt H a n ∧ n ≤ 999998000 ∧
  ∀ H' v rs, But a H H' → HandAt H' a (n + 12) → RegsAt K H' rs v → Q v H'
def spAsked (K : PySem.W.Frag) : Sp := fun vs H Q _ => ∃ (a : Addr) (many n : Nat), vs = [.ref a, .int (many : Int)] ∧ 2 ≤ many ∧ many ≤ 3 ∧ HandAt H a n ∧ n ≤ 999997000 ∧
  ∀ H' v ms, But a H H' → HandAt H' a (n + 25) → ShAt K H' many ms v → Q v H'
end NG

namespace NG
open PySem PySem.Spec PyProof.Rows L2
/-! ### rows of expressions -/
def RowsAt (K : PySem.W.Frag) (H : Hp) : List V → List Ex → Prop
  | [], [] => True
  | v :: vs, e :: es => ExAt K H e v ∧ RowsAt K H vs es
  | _, _ => False
theorem RowsAt.imp {K : PySem.W.Frag} {H H' : Hp} (h : ∀ p xs, SqT K H p xs → SqT K H' p xs) : ∀ {vs : List V} {es : List Ex}, RowsAt K H vs es → RowsAt K H' vs es
  | [], [], _ => trivial
  | _ :: _, _ :: _, ⟨x, r⟩ => ⟨x.imp h, RowsAt.imp h r⟩
theorem RowsAt.same {K : PySem.W.Frag} {H H' : Hp} {vs : List V} {es : List Ex} (r : RowsAt K H vs es) (s : Same H H') : RowsAt K H' vs es := r.imp fun _ _ q => same_sqt s q
theorem RowsAt.len {K : PySem.W.Frag} {H : Hp} : ∀ {vs : List V} {es : List Ex}, RowsAt K H vs es → vs.length = es.length
  | [], [], _ => rfl
  | _ :: _, _ :: _, ⟨_, r⟩ => by rw [List.length_cons, List.length_cons, r.len]
theorem RowsAt.snoc {K : PySem.W.Frag} {H : Hp} {v : V} {e : Ex} (x : ExAt K H e v) : ∀ {vs : List V} {es : List Ex}, RowsAt K H vs es → RowsAt K H (vs ++ [v]) (es ++ [e])
  | [], [], _ => ⟨x, trivial⟩
  | _ :: _, _ :: _, ⟨y, r⟩ => ⟨y, RowsAt.snoc x r⟩
theorem RowsAt.get {K : PySem.W.Frag} {H : Hp} : ∀ {vs : List V} {es : List Ex} {k : Nat} {e : Ex}, RowsAt K H vs es → es[k]? = some e → ∃ v, vs[k]? = some v ∧ ExAt K H e v
  | [], [], _, _, _, h => by simp at h
  | v :: vs, e' :: es, 0, e, ⟨x, r⟩, h => by
    have : e' = e := Option.some.inj h
    subst this
    exact ⟨v, rfl, x⟩
  | v :: vs, e' :: es, k + 1, e, ⟨x, r⟩, h => RowsAt.get (k := k) r h
def pairUp : List Ex → List Ex
  | a :: b :: r => .two .sum a b :: pairUp r
  | _ => []
theorem pairUp_get : ∀ {es : List Ex} {k : Nat} {a b : Ex}, es[2 * k]? = some a → es[2 * k + 1]? = some b → (pairUp es)[k]? = some (.two .sum a b)
  | [], k, _, _, h, _ => by simp at h
  | [_], k, _, _, _, h => by
    have := (List.getElem?_eq_some_iff.mp h).1
    rw [List.length_singleton] at this
    omega
  | x :: y :: r, 0, a, b, h, h2 => by
    have e1 : x = a := Option.some.inj h
    have e2 : y = b := Option.some.inj h2
    rw [← e1, ← e2]
    rfl
  | x :: y :: r, k + 1, a, b, h, h2 => by
    have h : r[2 * k]? = some a := h
    have h2 : r[2 * k + 1]? = some b := h2
    exact pairUp_get (es := r) (k := k) h h2
theorem pairUp_sum (rs ss : List Int) : ∀ {es : List Ex} {k : Nat}, es.length = 2 * k → ((pairUp es).map (wo rs ss)).sum = (es.map (wo rs ss)).sum ∧ (pairUp es).length = k
  | [], k, h => by
    rw [List.length_nil] at h
    exact ⟨rfl, by show 0 = k; omega⟩
  | [_], k, h => by
    rw [List.length_singleton] at h
    omega
  | x :: y :: r, k, h => by
    rw [List.length_cons, List.length_cons] at h
    obtain ⟨h1, h2⟩ := pairUp_sum rs ss (es := r) (k := k - 1) (by omega)
    refine ⟨?_, ?_⟩
    · show (wo rs ss (.two .sum x y) :: (pairUp r).map (wo rs ss)).sum = (wo rs ss x :: wo rs ss y :: r.map (wo rs ss)).sum
      rw [List.sum_cons, List.sum_cons, List.sum_cons, h1]
      show wo rs ss x + wo rs ss y + _ = _
      omega
    · show (pairUp r).length + 1 = k
      omega
theorem pairUp_ok {many d : Nat} : ∀ {es : List Ex}, (∀ e ∈ es, ExOk many e ∧ e.dep ≤ d) → ∀ e ∈ pairUp es, ExOk many e ∧ e.dep ≤ d + 1
  | [], _, e, h => by cases h
  | [_], _, e, h => by cases h
  | x :: y :: r, h, e, he => by
    have hx := h x List.mem_cons_self
    have hy := h y (List.mem_cons_of_mem _ List.mem_cons_self)
    rcases List.mem_cons.mp he with rfl | he
    · refine ⟨⟨hx.1, hy.1⟩, ?_⟩
      show max x.dep y.dep + 1 ≤ d + 1
      omega
    · exact pairUp_ok (es := r) (fun e he => h e (List.mem_cons_of_mem _ (List.mem_cons_of_mem _ he))) e he
def whn (j : Nat) (z : Int) : Ex := .whr j z (.fig 0) (.fig 1)
theorem count_sum (rs ss : List Int) (j : Nat) (h0 : 0 < ss.sum) : ∀ fs : List Int, ((fs.map (whn j)).map (wo rs ss)).sum = ((fs.filter fun z => decide (z ≤ 1000 * ss.getD j 0 / ss.sum)).length : Int) * ss.sum
  | [] => by simp
  | z :: fs => by
    have ih := count_sum rs ss j h0 fs
    have hm : 1000 * ss.getD j 0 / ss.sum < z ↔ 1000 * ss.getD j 0 < z * ss.sum := Int.ediv_lt_iff_lt_mul h0
    show (wo rs ss (whn j z) :: (fs.map (whn j)).map (wo rs ss)).sum = _
    rw [List.sum_cons, ih]
    show (if 1000 * ss.getD j 0 < z * ss.sum then 0 * ss.sum else 1 * ss.sum) + _ = _
    by_cases c : z ≤ 1000 * ss.getD j 0 / ss.sum
    · rw [List.filter_cons_of_pos (by rw [decide_eq_true c]), if_neg (fun q => by have := hm.mpr q; omega), List.length_cons, Int.natCast_succ, Int.add_mul]
      omega
    · rw [List.filter_cons_of_neg (by rw [decide_eq_false c]; exact Bool.false_ne_true), if_pos (hm.mp (by omega))]
      omega
def spCount (K : PySem.W.Frag) : Sp := fun vs H Q _ => ∃ (a : Addr) (many n : Nat) (s : V) (ss : List Int), vs = [.ref a, .int (many : Int), s] ∧ 2 ≤ many ∧ many ≤ 3 ∧ HandAt H a n ∧ n ≤ 999990000 ∧ ShAt K H many ss s ∧
  ∀ H', But a H H' → HandAt H' a (n + 10) → Q (.bl true) H'
end NG

namespace NG
open PySem PySem.Spec PyProof.Rows L2

/-! ### promises that are kept while no repr is under way -/
structure FnG (P : Program) (w : World) (K : PySem.W.Frag) (mg : Str → Option Value) (base : Heap) (k : Nat) (f : Addr) (fd : FuncData) (ps : List Str) (sp : Sp) : Prop where
  len : ∀ vs H Q E, sp vs H Q E → vs.length = ps.length
  run : ∀ (A : Around) (outer : List Env) (s : Shared) (H : Hp) (args : Args) (us : List Value) (vs : List V) (Q : VK), A.guards = some [] → Room k A → Env0 P w K mg base A outer s H → BindsTo s fd args (ps.zip us) → Vals vs us → sp vs H Q E0 →
    codeAny (model P w) A (.call (.ref f) args) (CR CX0 outer P w H s Q E0) s
theorem FnG.of {P : Program} {w : World} {K : PySem.W.Frag} {mg : Str → Option Value} {base : Heap} {k : Nat} {f : Addr} {fd : FuncData} {ps : List Str} {sp : Sp} (F : FnOk P w K mg base CX0 k f fd ps sp) : FnG P w K mg base k f fd ps sp :=
  ⟨F.len, fun A outer s H args us vs Q _ hr he hb hv hs => F.run A outer s H args us vs Q E0 hr he hb hv hs⟩
theorem fnG {P : Program} {w : World} {K : PySem.W.Frag} {mg : Str → Option Value} {base : Heap} {x qual : Str} {st : Stmt} {f : Addr} {fd : FuncData} {N ps : List Str} {k : Nat} {sp : Sp} (F : Fun K x qual st f fd) (S : FnScope N ps (defScope st)) (len : ∀ vs H Q E, sp vs H Q E → vs.length = ps.length)
    (walk : ∀ (cdv : Value) (A : Around) (outer : List Env) (s : Shared) (H : Hp) (vs : List V) (Q : VK), A.guards = some [] → Room k (A.deeper (envOfC qual (defScope st) s.heap.objs.size f cdv)) → sp vs H Q E0 →
      ∃ t, PSs (cxOf CX0 P w K mg base N qual (defScope st) f cdv A outer s H E0).nox (defBody st) t ∧ t { nx := fun _ H' => Q .non H', rt := Q } (start N vs) H) : FnG P w K mg base (k + 1) f fd ps sp := by
  obtain ⟨oc, od, kV, doc, pm, an, cdv, ct, osl, rfl, lk, hcd⟩ := F.ex
  refine ⟨len, fun A outer s H args us vs Q hg hr e0 bd rv hs => ?_⟩
  have inK : K.In s.heap := e0.mod.kin.keeps fun b o e => (e0.bs b o e).1
  have nolim : s.heap.NoLimit := e0.mod.nolimit.keeps fun b o e => (e0.bs b o e).1
  refine codeAny_call_function hr.depth (inK _ _ lk) rfl S.co S.gen rfl (PySem.W.codeRec_of inK hcd) (bd _ _ _ _ ?_)
  refine wpAny_newFunctionEnv_cells S.kind (fun y hy => ?_) fun env he s1 ic => ?_
  · obtain ⟨n, v⟩ := y
    rcases S.par n (List.of_mem_zip hy).1 with z | z
    · exact .inl z
    · exact .inr ⟨z, PySem.W.cellsFrom_some _ _ _ (.inl z)⟩
  subst he
  refine ⟨nolim.keeps ic.toInCall.keep, codeAny_func ?_⟩
  obtain ⟨t, ht, hq⟩ := walk cdv A outer s H vs Q hg (hr.deeper _) hs
  have I := inv_start (CX := CX0) (E := E0) S hr.hd e0 (len _ _ _ _ hs) rv ic
  refine wpAny_mono (ht.nox.run [] s1 (start N vs) H _ I hq) (fun fl s' hf => ?_) fun e s' hf => hf
  match fl, hf with
  | .ret u, ⟨v, σ', H', J, r, q⟩ => exact ⟨v, H', J.os, J.bare, J.base, J.hok, r, q⟩
  | .next, ⟨σ', H', J, q⟩ => exact ⟨.non, H', J.os, J.bare, J.base, J.hok, rfl, q⟩
  | .brk, ⟨_, _, _, q⟩ => exact q.elim
  | .cont, ⟨_, _, _, q⟩ => exact q.elim

structure CalG (P : Program) (w : World) (K : PySem.W.Frag) (mg : Str → Option Value) (base : Heap) (k : Nat) (x : Str) (sp : Sp) : Prop where
  ex : ∃ (f : Addr) (fd : FuncData) (ps : List Str), FnG P w K mg base k f fd ps sp ∧ mg x = some (.ref f) ∧ PySem.W.keepIn K (.ref f) = true ∧ Binds K fd ps []
theorem Cal.g {P : Program} {w : World} {K : PySem.W.Frag} {mg : Str → Option Value} {base : Heap} {k : Nat} {x : Str} {sp : Sp} (c : Cal P w K mg base k x sp) : CalG P w K mg base k x sp := by
  obtain ⟨f, fd, ps, F, r⟩ := c.ex
  exact ⟨f, fd, ps, .of F, r⟩
section
variable {X : Cx} {k j : Nat} {x : Str} {sp : Sp} {p pos : Pos} {e : Expr} {es : List Expr} {t : TA}
theorem pe_g (c : CalG X.prog X.w X.K X.mg X.base k x sp) (hgd : X.A.guards = some []) (hr : Room j X.A) (hk : k ≤ j) (hg : Gl X x) (ha : PA X (e :: es) t)
    (hdb : (x == ("__debug__" : Str)) = false := by decide) (he : starEach (e :: es) X.env = (false, eval e X.env) :: starEach es X.env := by rfl) (hpl : (backTo pos (starEach es X.env)).any (·.1) = false := by rfl) :
    PE X (.Call (.Name x p) (e :: es) [] pos) (tCall sp [] E0 t) := by
  obtain ⟨f, fd, ps, F, hm, kp, b⟩ := c.ex
  refine ⟨fun pins s σ H Q I h => wpAny_Call_Name_kw (ld_glob I hg hm ?_ hdb)⟩
  refine PySem.W.callWith_K (h₀ := X.base) I.ok.mod.kin kp (thn (ha.run pos pins s σ H _ I h) fun us s1 ⟨vs, H1, I1, r, q⟩ => ⟨I1.kIn, ?_⟩) he hpl
  have q : sp (vs ++ []) H1 Q E0 := q
  rw [List.append_nil] at q
  have hl : (us ++ []).length = ps.length := by
    rw [List.append_nil, ← r.length]
    exact F.len _ _ _ _ q
  have bd := b s1 us I1.kIn hl
  rw [List.append_nil] at bd
  refine wpAny_call (codeAny_mono (F.run X.A X.stack s1 H1 ⟨us, []⟩ us vs Q hgd (hr.mono hk) I1.env0 bd r q) fun res s' hq => ?_)
  match res, hq with
  | .ok (.ret u), hq => exact I1.after hq
  | .ok .next, hq => exact False.elim hq
  | .ok .brk, hq => exact False.elim hq
  | .ok .cont, hq => exact False.elim hq
  | .error e, hq => exact False.elim hq
end

/-! ### the law's call -/
theorem lawG {P : Program} {w : World} {K : PySem.W.Frag} {mg mb : Str → Option Value} {k : Nat} {fa a : Addr} {fd : FuncData} {x : Str} {sp : Sp} {st : Shared} {vs : List Value} {ns : List Int}
    (inK : K.In st.heap) (gl : st.heap.Ns mainGlobals mg) (bl : st.heap.Ns builtinsNs mb) (blt : ∀ y : Str, y ≠ "__name__" → mb y = bootBuiltins y) (lim : st.heap.NoLimit) (gens : st.gens = #[])
    (at0 : st.heap.get? a = some { cls := .type "list", data := .seq vs.toArray }) (hint : IntsAre vs ns) (short : ns.length ≤ sizeLine) (room : Room k callerA)
    (F : ∀ base : Heap, K.In base → base.Ns mainGlobals mg → FnG P w K mg base k fa fd [x] sp) (bind : ∀ (s : Shared) (u : Value), BindsTo s fd ⟨[u], []⟩ [(x, u)])
    (prom : ∀ H : Hp, Only H → SqL K H a (ns.map V.int) → sp [.ref a] H (fun v _ => v = .bl true) E0) :
    codeAny (model P w) callerA (.call (.ref fa) ⟨[.ref a], []⟩) (fun r s' => r = .ok (.ret (.bool true)) ∧ OldK st.heap s'.heap ∧ s'.os = st.os ∧ AllBare s'.gens) st := by
  have rel := vals_ints hint
  have go : ∀ H : Hp, Only H → SqL K H a (ns.map V.int) → HOk P w H st.heap → (∀ b, H b ≠ none → b = a ∧ K.lookup b = none) →
      codeAny (model P w) callerA (.call (.ref fa) ⟨[.ref a], []⟩) (fun r s' => r = .ok (.ret (.bool true)) ∧ OldK st.heap s'.heap ∧ s'.os = st.os ∧ AllBare s'.gens) st := by
    intro H on sq ok sole
    have dicts : ∀ {b : Addr} {o : Obj} {es : Array DictEntry} {ep : Nat}, st.heap.get? b = some o → o.data = .dict es ep → H b = none := by
      intro b o es ep e d
      by_cases z : H b = none
      · exact z
      · obtain ⟨rfl, _⟩ := sole b z
        rw [at0] at e
        cases e
        cases d
    have names : ∀ {b : Addr} {m : Str → Option Value}, st.heap.Ns b m → (hidT st.heap H).Ns b m := by
      rintro b m ⟨o, es, ep, e, d, r⟩
      exact ⟨o, es, ep, hidT_get e (dicts e d), d, r⟩
    have kin : K.In (hidT st.heap H) := by
      intro b o e
      refine hidT_get (inK b o e) ?_
      by_cases z : H b = none
      · exact z
      · rw [(sole b z).2] at e
        cases e
    have md : Mod K mg (hidT st.heap H) := by
      obtain ⟨mc, l1, l2⟩ := lim
      exact ⟨kin, names gl, ⟨mb, names bl, blt⟩, ⟨mc, names l1, l2⟩⟩
    have env : Env0 P w K mg (hidT st.heap H) callerA [] st H :=
      ⟨rfl, md, fun b o e => of_hidT e, Nat.le_of_eq (hidT_size _ _), trivial, fun b z => absurd (show b ∈ ([] : List Addr) from z) (by simp), ok, .of_eq gens⟩
    refine codeAny_mono ((F _ kin (names gl)).run callerA [] st H ⟨[.ref a], []⟩ [.ref a] [.ref a] _ rfl room env (bind st (.ref a)) (.cons rfl .nil) (prom H on sq)) fun res s' hq => ?_
    match res, hq with
    | .ok .next, hq => exact False.elim hq
    | .ok .brk, hq => exact False.elim hq
    | .ok .cont, hq => exact False.elim hq
    | .error e, hq => exact False.elim hq
    | .ok (.ret u), ⟨v, H', os, bare, un, ok', r, q⟩ =>
      have q : v = .bl true := q
      subst q
      have r : u = Value.bool true := r
      subst r
      refine ⟨rfl, OldK.of_keep fun b o e => ?_, os, bare⟩
      by_cases z : H b = none
      · exact un.keep b o e z (fun y => absurd (show b ∈ ([] : List Addr) from y) (by simp)) (by simp)
      · rcases on b with y | ⟨ob, xs, y⟩
        · exact absurd y z
        · obtain ⟨p1, _⟩ := ok b _ y
          obtain ⟨p2, _⟩ := ok' b _ (un.frzs b ob _ y)
          rw [e] at p1
          cases p1
          exact p2
  by_cases hk : K.lookup a = none
  · refine go (upd (fun _ => none) a (.frz { cls := .type "list", data := .seq vs.toArray } (.lst (ns.map V.int)))) (fun b => ?_) (.inl (.inr ⟨_, upd_same⟩)) (fun b u z => ?_) (fun b z => ?_)
    · by_cases hb : b = a
      · subst hb
        exact .inr ⟨_, _, upd_same⟩
      · exact .inl (upd_ne hb)
    · by_cases hb : b = a
      · subst hb
        rw [upd_same] at z
        cases z
        exact ⟨at0, by rw [List.length_map]; exact short, vs, _, rel, at0⟩
      · rw [upd_ne hb] at z
        cases z
    · by_cases hb : b = a
      · subst hb
        exact ⟨rfl, hk⟩
      · exact absurd (upd_ne hb) z
  · obtain ⟨o, ho⟩ := Option.ne_none_iff_exists'.mp hk
    have e := inK a o ho
    rw [at0] at e
    cases e
    refine go (fun _ => none) (fun _ => .inl rfl) (.inr ⟨_, vs.toArray, _, ho, rfl, rfl, rfl, ?_, by simpa using rel⟩) (fun b u z => by cases z) (fun b z => absurd rfl z)
    rw [List.size_toArray, hint.length]
    exact short
theorem walkG {l : PySem.W.OpenLaw} {n k : Nat} {q : Program} {loose : List Str} {XP : (Str → Option Value) → Heap → Prop} {YP : World → Heap → Prop} {d : DefRec} {K : Params → PySem.W.Frag} {sp : World → Sp} {x : Str}
    (hn : l.most = some n) (hn2 : n ≤ sizeLine) (hdf : d.params.defaults = []) (hr : Room k callerA) (hY : ∀ (w : World) (h : Heap), YP w h → (K w.params).In h)
    (F : ∀ (w : World) (mg : Str → Option Value) (fa : Addr) (h : Heap), (K w.params).In h → h.Ns mainGlobals mg → mg d.name = some (.ref fa) →
      ∃ fd : FuncData, (∀ (s : Shared) (u : Value), BindsTo s fd ⟨[u], []⟩ [(x, u)]) ∧ ∀ base : Heap, (K w.params).In base → base.Ns mainGlobals mg → FnG l.prog w (K w.params) mg base k fa fd [x] (sp w))
    (hsp : ∀ (w : World) (H : Hp) (a : Addr) (ns : List Int), ns.length ≤ n → Only H → SqL (K w.params) H a (ns.map V.int) → sp w [.ref a] H (fun v _ => v = .bl true) E0) :
    PySem.W.WalkO q loose XP YP l.row.toRowW d [] (fun f vs => PySem.call f vs) := by
  refine Att.attach_call hn hdf fun w s0 s1 mg mb fa o pm cd doc a vs ns G Y _ _ _ hmg hobj hints hlen hg => ?_
  have inK := hY w _ Y
  obtain ⟨fd, hb, hF⟩ := F w mg fa _ inK G.T.g hmg
  exact lawG inK G.T.g G.T.b G.T.builtins G.T.nolimit hg hobj hints (Nat.le_trans hlen hn2) hr hF hb fun H on sq => hsp w H a ns hlen on sq

/-! ### repr -/
mutual
theorem Dp_nodict {K : PySem.W.Frag} {H : Hp} : ∀ {d : PyData} {v : V}, Dp K H v d → d.hasDict = false
  | .none, _, _ => by simp only [PyData.hasDict]
  | .bool _, _, _ => by simp only [PyData.hasDict]
  | .int _, _, _ => by simp only [PyData.hasDict]
  | .str _, _, _ => by simp only [PyData.hasDict]
  | .list ds, _, h => by
    cases h with
    | lst _ h => simp only [PyData.hasDict, DpAll_nodict h]
  | .tuple ds, _, h => by
    cases h with
    | tup _ h => simp only [PyData.hasDict, DpAll_nodict h]
  | .dict _, _, h => by cases h
theorem DpAll_nodict {K : PySem.W.Frag} {H : Hp} : ∀ {ds : List PyData} {vs : List V}, DpAll K H vs ds → PyData.hasDictAll ds = false
  | [], _, _ => by simp only [PyData.hasDictAll]
  | d :: ds, _, h => by
    cases h with
    | cons h1 h2 => simp only [PyData.hasDictAll, Dp_nodict h1, DpAll_nodict h2, Bool.or_self]
end
def rRepr (K : PySem.W.Frag) : List V → Hp → VK → Prop := fun vs H Q => ∃ (p : Addr) (d : PyData), vs = [.ref p] ∧ Dp K H (.ref p) d ∧ d.showable = true ∧ d.depth ≤ 60 ∧ d.shown.length ≤ sizeLine ∧ Q (.str d.shown) H
theorem cr_repr {X : Cx} (hg : X.A.guards = some []) (hu : X.A.units + 64 < cLine) : CallR X (.builtin "repr") (rRepr X.K) := by
  intro pins s σ H vs us Q I r h
  obtain ⟨p, d, rfl, hd, hs, hz, hl, q⟩ := h
  rw [Vals.ref1 r]
  obtain ⟨as, rd⟩ := Dp.reads I d (.ref p) (.ref p) hd rfl
  exact repr_of_reads' rd hs (PyData.noDict_hsm (Dp_nodict hd)) hg (by omega) (fun _ _ e => e) (fun h' u tk hk => ⟨.str _, H, I.kept hk, ⟨_, rfl⟩, q⟩) hl
end NG

namespace NG
open PySem PySem.Spec PyProof.Rows L2

/-! ### more rules -/
theorem pgtK {X : Cx} (K : PySem.W.Frag) {es : List Expr} {k : Nat} {t : TGs} {n : Nat} {pos : Pos} (hc : X.calm = true) (h : PGs X es t)
    (hn : (assignEach es X.env).length = n := by rfl) (hst : (assignEach es X.env).findIdx? (·.1) = none := by rfl) (hK : X.K = K := by rfl) : PG X (.Tuple es k pos) (gTup K n t) := by
  subst hK
  exact pg_tup hc h hn hst
theorem inK {X : Cx} (K : PySem.W.Frag) (h : X.K = K := by rfl) : OpR X (compareOp .In) (rIn K false) := by
  subst h
  exact op_in_seq
theorem isiK {X : Cx} (K : PySem.W.Frag) (h : X.K = K := by rfl) : CallR X (.builtin "isinstance") (rIsi K) := by
  subst h
  exact call_isi
theorem walk_zipT {K : PySem.W.Frag} {a b : Addr} {xs ys : List V} {n : Nat} (hx : xs.length = n) (hy : ys.length = n) : Walk (RZ.ItzT K a b) n (fun H => SqT K H a xs ∧ SqT K H b ys) (YPair (fun i => xs[i]?) (fun i => ys[i]?)) := by
  refine ⟨fun i H hi q => ?_, fun H q => ⟨xs, ys, q.1, q.2, .inl (by omega)⟩, fun i H v H' hi q y => ?_⟩
  · exact ⟨xs, ys, xs[i]'(by omega), ys[i]'(by omega), q.1, q.2, List.getElem?_eq_getElem _, List.getElem?_eq_getElem _⟩
  · obtain ⟨T, x, z, h1, h2, h3, h4, h5⟩ := y
    exact ⟨T, x, z, h1, h2, h3, h4 xs q.1, h5 ys q.2⟩
def tChain3 (r r' r'' : R2) (ta tb tc td : TE) : TT := fun σ H Q => ta σ H fun x H1 => tb σ H1 fun y H2 => r x y H2 fun z H3 => ∃ k, z = .bl k ∧
  (if k = true then tc σ H3 fun u H4 => r' y u H4 fun z' H5 => ∃ k', z' = .bl k' ∧ (if k' = true then td σ H5 fun v H6 => r'' u v H6 fun z'' H7 => ∃ k'', z'' = .bl k'' ∧ Q k'' H7 else Q false H5) else Q false H3)
theorem pt_chain3 {X : Cx} {a b c d : Expr} {ta tb tc td : TE} {pos : Pos} {o1 o2 o3 : CmpOp} {r1 r2 r3 : R2} (h1 : OpR X (compareOp o1) r1) (h2 : OpR X (compareOp o2) r2) (h3 : OpR X (compareOp o3) r3) (ha : PE X a ta) (hb : PE X b tb) (hc : PE X c tc) (hd : PE X d td)
    (hm : lastMarks [o1, o2, o3] [b, c, d] = false := by with_unfolding_all rfl) : PT X (.Compare a [o1, o2, o3] [b, c, d] pos) (tChain3 r1 r2 r3 ta tb tc td) := by
  refine ⟨fun pins s σ H Q I h => isTrue_chain (thn (ha.run pins s σ H _ I h) fun v1 s1 ⟨x, H1, I1, e1, q1⟩ => test_link (thn (hb.run pins s1 σ H1 _ I1 q1) fun v2 s2 ⟨y, H2, I2, e2, q2⟩ => thn (h1 pins s2 σ H2 x y v1 v2 _ I2 e1 e2 q2) fun v3 s3 ⟨z, H3, I3, e3, k, ek, q3⟩ => ?_)) hm⟩
  subst ek
  cases e3
  refine wpAny_truthy_bool ?_
  cases k with
  | false => exact ite_ff ⟨H3, I3, q3⟩
  | true =>
    refine ite_tt (test_link (thn (hc.run pins s3 σ H3 _ I3 q3) fun v4 s4 ⟨u, H4, I4, e4, q4⟩ => thn (h2 pins s4 σ H4 y u v2 v4 _ I4 e2 e4 q4) fun v5 s5 ⟨z', H5, I5, e5, k', ek', q5⟩ => ?_))
    subst ek'
    cases e5
    refine wpAny_truthy_bool ?_
    cases k' with
    | false => exact ite_ff ⟨H5, I5, q5⟩
    | true =>
      refine ite_tt (test_last (thn (hd.run pins s5 σ H5 _ I5 q5) fun v6 s6 ⟨v, H6, I6, e6, q6⟩ => thn (h3 pins s6 σ H6 u v v4 v6 _ I6 e4 e6 q6) fun v7 s7 ⟨z'', H7, I7, e7, k'', ek'', q7⟩ => ?_))
      subst ek''
      cases e7
      exact wpAny_truthy_bool ⟨H7, I7, q7⟩

/-! ### the shapes of words -/
def shapeOf : Ex → List Str
  | .fig _ => ["figure"]
  | .reg _ => ["place"]
  | .share _ => ["sign"]
  | .two _ _ _ => ["part", "part"]
  | .times _ _ => ["factor", "part"]
  | .by _ _ => ["place", "part"]
  | .when _ _ _ _ => ["place", "figure", "part", "part"]
  | .whr _ _ _ _ => ["sign", "line", "part", "part"]
def wordOf : Ex → Str
  | .fig _ => "fig"
  | .reg _ => "reg"
  | .share _ => "share"
  | .two w _ _ => wn w
  | .times _ _ => "times"
  | .by _ _ => "by"
  | .when _ _ _ _ => "when"
  | .whr _ _ _ _ => "where"
def Shapes (K : PySem.W.Frag) (w : World) (d : Addr) : Prop := ∀ e : Ex, ∃ q, KDct K w d (wordOf e) (.ref q) ∧ ∀ H, SqT K H q ((shapeOf e).map V.str)
def Ex.kids : Ex → List Ex
  | .fig _ => []
  | .reg _ => []
  | .share _ => []
  | .two _ a b => [a, b]
  | .times _ a => [a]
  | .by _ a => [a]
  | .when _ _ a b => [a, b]
  | .whr _ _ a b => [a, b]
/-- the items whose kind is a part -/
def pk : List Str → List V → List V
  | k :: ks, v :: vs => if V.str k = V.str "part" then v :: pk ks vs else pk ks vs
  | _, _ => []
theorem pk_snoc : ∀ {ks : List Str} {vs : List V} {i : Nat} {k : Str} {v : V}, ks[i]? = some k → vs[i]? = some v → pk (ks.take (i + 1)) (vs.take (i + 1)) = pk (ks.take i) (vs.take i) ++ (if V.str k = V.str "part" then [v] else [])
  | [], _, i, _, _, h, _ => by simp at h
  | _ :: _, [], i, _, _, _, h => by simp at h
  | k0 :: ks, v0 :: vs, 0, k, v, h, h2 => by
    have e1 : k0 = k := Option.some.inj h
    have e2 : v0 = v := Option.some.inj h2
    subst e1 e2
    show (if V.str k0 = V.str "part" then v0 :: pk (ks.take 0) (vs.take 0) else pk (ks.take 0) (vs.take 0)) = _
    split <;> rfl
  | k0 :: ks, v0 :: vs, i + 1, k, v, h, h2 => by
    have ih := pk_snoc (ks := ks) (vs := vs) (i := i) h h2
    show (if V.str k0 = V.str "part" then v0 :: pk (ks.take (i + 1)) (vs.take (i + 1)) else pk (ks.take (i + 1)) (vs.take (i + 1))) = (if V.str k0 = V.str "part" then v0 :: pk (ks.take i) (vs.take i) else pk (ks.take i) (vs.take i)) ++ _
    rw [ih]
    split <;> rfl
/-- how an expression lies: its word, then what belongs there -/
theorem ExAt.lies {K : PySem.W.Frag} {H : Hp} : ∀ {e : Ex} {v : V}, ExAt K H e v → ∃ (p : Addr) (xs : List V), v = .ref p ∧ SqT K H p (.str (wordOf e) :: xs) ∧ xs.length = (shapeOf e).length ∧ xs.length ≤ 4 ∧ 0 < xs.length ∧ RowsAt K H (pk (shapeOf e) xs) e.kids
  | .fig _, _, ⟨p, e, q⟩ => ⟨p, _, e, q, rfl, by simp, by simp, trivial⟩
  | .reg _, _, ⟨p, e, q⟩ => ⟨p, _, e, q, rfl, by simp, by simp, trivial⟩
  | .share _, _, ⟨p, e, q⟩ => ⟨p, _, e, q, rfl, by simp, by simp, trivial⟩
  | .two _ _ _, _, ⟨p, x, y, e, q, a, b⟩ => ⟨p, _, e, q, rfl, by simp, by simp, a, b, trivial⟩
  | .times _ _, _, ⟨p, x, e, q, a⟩ => ⟨p, _, e, q, rfl, by simp, by simp, a, trivial⟩
  | .by _ _, _, ⟨p, x, e, q, a⟩ => ⟨p, _, e, q, rfl, by simp, by simp, a, trivial⟩
  | .when _ _ _ _, _, ⟨p, x, y, e, q, a, b⟩ => ⟨p, _, e, q, rfl, by simp, by simp, a, b, trivial⟩
  | .whr _ _ _ _, _, ⟨p, x, y, e, q, a, b⟩ => ⟨p, _, e, q, rfl, by simp, by simp, a, b, trivial⟩
theorem pk_len : ∀ (ks : List Str) (vs : List V), (pk ks vs).length ≤ vs.length
  | [], vs => by
    unfold pk
    exact Nat.zero_le _
  | _ :: _, [] => Nat.le_refl _
  | k :: ks, v :: vs => by
    have := pk_len ks vs
    unfold pk
    split
    · rw [List.length_cons, List.length_cons]
      omega
    · rw [List.length_cons]
      omega

/-! ### spans -/
def mn (x y : Int) : Int := if y < x then y else x
def mx (x y : Int) : Int := if y > x then y else x
theorem mn_le (x y : Int) : mn x y ≤ x ∧ mn x y ≤ y := by unfold mn; split <;> omega
theorem le_mx (x y : Int) : x ≤ mx x y ∧ y ≤ mx x y := by unfold mx; split <;> omega
theorem mn_or (x y : Int) : mn x y = x ∨ mn x y = y := by unfold mn; split <;> simp
theorem mx_or (x y : Int) : mx x y = x ∨ mx x y = y := by unfold mx; split <;> simp
def ab (x : Int) : Int := if x < 0 then -x else x
def js : W4 → Int × Int → Int × Int → Int × Int
  | .sum, x, y => (x.1 + y.1, x.2 + y.2)
  | .less, x, y => (x.1 - y.2, x.2 - y.1)
  | .least, x, y => (mn x.1 y.1, mn x.2 y.2)
  | .most, x, y => (mx x.1 y.1, mx x.2 y.2)
def spn : Ex → Int × Int
  | .fig c => (c, c)
  | .reg _ => (-1000, 1000)
  | .share _ => (0, 1000)
  | .two w a b => js w (spn a) (spn b)
  | .times f a => (mn (f * (spn a).1) (f * (spn a).2), mx (f * (spn a).1) (f * (spn a).2))
  | .by _ a => (-1000 * mx (ab (spn a).1) (ab (spn a).2), 1000 * mx (ab (spn a).1) (ab (spn a).2))
  | .when _ _ a b => (mn (spn a).1 (spn b).1, mx (spn a).2 (spn b).2)
  | .whr _ _ a b => (mn (spn a).1 (spn b).1, mx (spn a).2 (spn b).2)
def SpAt (K : PySem.W.Frag) (H : Hp) (s : Int × Int) (v : V) : Prop := ∃ p, v = .ref p ∧ SqT K H p [.int s.1, .int s.2]
def SpsAt (K : PySem.W.Frag) (H : Hp) : List V → List (Int × Int) → Prop
  | [], [] => True
  | v :: vs, s :: ss => SpAt K H s v ∧ SpsAt K H vs ss
  | _, _ => False
theorem SpsAt.imp {K : PySem.W.Frag} {H H' : Hp} (h : ∀ p xs, SqT K H p xs → SqT K H' p xs) : ∀ {vs : List V} {ss : List (Int × Int)}, SpsAt K H vs ss → SpsAt K H' vs ss
  | [], [], _ => trivial
  | _ :: _, _ :: _, ⟨⟨p, e, q⟩, r⟩ => ⟨⟨p, e, h _ _ q⟩, SpsAt.imp h r⟩
theorem SpsAt.snoc {K : PySem.W.Frag} {H : Hp} {v : V} {s : Int × Int} (x : SpAt K H s v) : ∀ {vs : List V} {ss : List (Int × Int)}, SpsAt K H vs ss → SpsAt K H (vs ++ [v]) (ss ++ [s])
  | [], [], _ => ⟨x, trivial⟩
  | _ :: _, _ :: _, ⟨y, r⟩ => ⟨y, SpsAt.snoc x r⟩
theorem SpsAt.len {K : PySem.W.Frag} {H : Hp} : ∀ {vs : List V} {ss : List (Int × Int)}, SpsAt K H vs ss → vs.length = ss.length
  | [], [], _ => rfl
  | _ :: _, _ :: _, ⟨_, r⟩ => by rw [List.length_cons, List.length_cons, r.len]

theorem int_at {ns : List Int} {i : Nat} {v : V} (h : (ns.map V.int)[i]? = some v) : ∃ z : Int, v = .int z ∧ ns[i]? = some z := by
  rw [List.getElem?_map] at h
  cases e : ns[i]? with
  | none => rw [e] at h; cases h
  | some z => rw [e] at h; exact ⟨z, (Option.some.inj h).symm, rfl⟩
theorem SpsAt.one {K : PySem.W.Frag} {H : Hp} {us : List V} {s : Int × Int} (h : SpsAt K H us [s]) : ∃ p, us = [.ref p] ∧ SqT K H p [.int s.1, .int s.2] := by
  cases us with
  | nil => exact h.elim
  | cons u r =>
    cases r with
    | nil =>
      obtain ⟨⟨p, e, q⟩, _⟩ := h
      exact ⟨p, by rw [e], q⟩
    | cons _ _ => exact h.2.elim
theorem SpsAt.pair {K : PySem.W.Frag} {H : Hp} {us : List V} {s t : Int × Int} (h : SpsAt K H us [s, t]) : ∃ p q, us = [.ref p, .ref q] ∧ SqT K H p [.int s.1, .int s.2] ∧ SqT K H q [.int t.1, .int t.2] := by
  cases us with
  | nil => exact h.elim
  | cons u r =>
    obtain ⟨⟨p, e, q⟩, h2⟩ := h
    obtain ⟨p2, e2, q2⟩ := SpsAt.one h2
    exact ⟨p, p2, by rw [e, e2], q, q2⟩
theorem put_sqt {K : PySem.W.Frag} {H : Hp} {D p : Addr} {us us' xs : List V} (h : H D = some (.lst us)) (q : SqT K H p xs) : SqT K (upd H D (.lst us')) p xs := by
  rcases q with (q | ⟨o, q⟩) | q
  · exact .inl (.inl (by rw [upd_ne (ne_of q h (by intro z; cases z))]; exact q))
  · exact .inl (.inr ⟨o, by rw [upd_ne (ne_of q h (by intro z; cases z))]; exact q⟩)
  · exact .inr q
theorem RowsAt.get' {K : PySem.W.Frag} {H : Hp} : ∀ {vs : List V} {es : List Ex} {k : Nat} {v : V}, RowsAt K H vs es → vs[k]? = some v → ∃ e, es[k]? = some e ∧ ExAt K H e v
  | [], [], _, _, _, h => by simp at h
  | v' :: vs, e :: es, 0, v, ⟨x, r⟩, h => by
    have : v' = v := Option.some.inj h
    subst this
    exact ⟨e, rfl, x⟩
  | v' :: vs, e :: es, k + 1, v, ⟨x, r⟩, h => RowsAt.get' (k := k) r h
theorem mn_of {m a b : Int} (h : m ∈ [a, b]) (hl : ∀ y ∈ [a, b], m ≤ y) : m = mn a b := by
  have h1 := hl a (by simp)
  have h2 := hl b (by simp)
  simp only [List.mem_cons, List.not_mem_nil, or_false] at h
  unfold mn
  split <;> omega
theorem mx_of {m a b : Int} (h : m ∈ [a, b]) (hl : ∀ y ∈ [a, b], y ≤ m) : m = mx a b := by
  have h1 := hl a (by simp)
  have h2 := hl b (by simp)
  simp only [List.mem_cons, List.not_mem_nil, or_false] at h
  unfold mx
  split <;> omega

/-! ### promises -/
def spParts (K : PySem.W.Frag) : Sp := fun vs H Q _ => ∃ (v : V) (e : Ex), vs = [v] ∧ ExAt K H e v ∧ ∀ H' p xs, Same H H' → H p = none → H' p = some (.lst xs) → RowsAt K H' xs e.kids → Q (.ref p) H'
def spJoinS (K : PySem.W.Frag) : Sp := fun vs H Q _ => ∃ (e : Ex) (x y : V) (s t : Int × Int), vs = [.str (wordOf e), x, y] ∧ SpAt K H s x ∧ SpAt K H t y ∧
  ((∃ w a b, e = .two w a b ∧ ∀ H' v, Same H H' → SpAt K H' (js w s t) v → Q v H') ∨ ((∃ i c a b, e = .when i c a b) ∨ (∃ i c a b, e = .whr i c a b)) ∧ ∀ H' v, Same H H' → SpAt K H' (mn s.1 t.1, mx s.2 t.2) v → Q v H')
def spSpan (K : PySem.W.Frag) (n : Nat) : Sp := fun vs H Q _ => ∃ (v : V) (e : Ex) (many : Nat), vs = [v] ∧ ExAt K H e v ∧ ExOk many e ∧ e.dep ≤ n ∧ ∀ H' u, Same H H' → SpAt K H' (spn e) u → Q u H'
theorem kids_dep : ∀ (e : Ex) (k : Ex), k ∈ e.kids → k.dep + 1 ≤ e.dep
  | .fig _, k, h => by cases h
  | .reg _, k, h => by cases h
  | .share _, k, h => by cases h
  | .two w0 a b, k, h => by
    simp only [Ex.kids, List.mem_cons, List.not_mem_nil, or_false] at h
    have e : Ex.dep (.two w0 a b) = max a.dep b.dep + 1 := rfl
    rw [e]
    rcases h with rfl | rfl <;> omega
  | .times _ a, k, h => by
    simp only [Ex.kids, List.mem_cons, List.not_mem_nil, or_false] at h
    subst h
    exact Nat.le_refl _
  | .by _ a, k, h => by
    simp only [Ex.kids, List.mem_cons, List.not_mem_nil, or_false] at h
    subst h
    exact Nat.le_refl _
  | .when i0 c0 a b, k, h => by
    simp only [Ex.kids, List.mem_cons, List.not_mem_nil, or_false] at h
    have e : Ex.dep (.when i0 c0 a b) = max a.dep b.dep + 1 := rfl
    rw [e]
    rcases h with rfl | rfl <;> omega
  | .whr i0 c0 a b, k, h => by
    simp only [Ex.kids, List.mem_cons, List.not_mem_nil, or_false] at h
    have e : Ex.dep (.whr i0 c0 a b) = max a.dep b.dep + 1 := rfl
    rw [e]
    rcases h with rfl | rfl <;> omega
theorem kids_ok {many : Nat} : ∀ (e : Ex) (k : Ex), ExOk many e → k ∈ e.kids → ExOk many k
  | .fig _, k, _, h => by cases h
  | .reg _, k, _, h => by cases h
  | .share _, k, _, h => by cases h
  | .two _ a b, k, o, h => by
    simp only [Ex.kids, List.mem_cons, List.not_mem_nil, or_false] at h
    rcases h with rfl | rfl
    · exact o.1
    · exact o.2
  | .times _ a, k, o, h => by
    simp only [Ex.kids, List.mem_cons, List.not_mem_nil, or_false] at h
    subst h
    exact o.2
  | .by _ a, k, o, h => by
    simp only [Ex.kids, List.mem_cons, List.not_mem_nil, or_false] at h
    subst h
    exact o.2
  | .when _ _ a b, k, o, h => by
    simp only [Ex.kids, List.mem_cons, List.not_mem_nil, or_false] at h
    rcases h with rfl | rfl
    · exact o.2.2.1
    · exact o.2.2.2
  | .whr _ _ a b, k, o, h => by
    simp only [Ex.kids, List.mem_cons, List.not_mem_nil, or_false] at h
    rcases h with rfl | rfl
    · exact o.2.2.1
    · exact o.2.2.2
end NG

namespace NG
open PySem PySem.Spec PyProof.Rows L2
/-! ### what stands around an expression -/
inductive Cx1 where
  | l (w : W4) (x : Ex) | r (w : W4) (x : Ex) | times (f : Int) | by (i : Nat)
  | whenL (i : Nat) (c : Int) (x : Ex) | whenR (i : Nat) (c : Int) (x : Ex) | whrL (j : Nat) (c : Int) (x : Ex) | whrR (j : Nat) (c : Int) (x : Ex)
def Cx1.put : Cx1 → Ex → Ex
  | .l w x, e => .two w e x
  | .r w x, e => .two w x e
  | .times f, e => .times f e
  | .by i, e => .by i e
  | .whenL i c x, e => .when i c e x
  | .whenR i c x, e => .when i c x e
  | .whrL j c x, e => .whr j c e x
  | .whrR j c x, e => .whr j c x e
def Cx1.lay (u : V) : Cx1 → List V × List V
  | .l w _ => ([.str (wn w)], [u])
  | .r w _ => ([.str (wn w), u], [])
  | .times f => ([.str "times", .int f], [])
  | .by i => ([.str "by", .int (i : Int)], [])
  | .whenL i c _ => ([.str "when", .int (i : Int), .int c], [u])
  | .whenR i c _ => ([.str "when", .int (i : Int), .int c, u], [])
  | .whrL j c _ => ([.str "where", .int (j : Int), .int c], [u])
  | .whrR j c _ => ([.str "where", .int (j : Int), .int c, u], [])
def Cx1.leaf (K : PySem.W.Frag) (H : Hp) (u : V) : Cx1 → Prop
  | .l _ x => ExAt K H x u
  | .r _ x => ExAt K H x u
  | .times _ => True
  | .by _ => True
  | .whenL _ _ x => ExAt K H x u
  | .whenR _ _ x => ExAt K H x u
  | .whrL _ _ x => ExAt K H x u
  | .whrR _ _ x => ExAt K H x u
def Cx1.ok (many : Nat) : Cx1 → Prop
  | .l _ x => ExOk many x ∧ x.dep ≤ 1
  | .r _ x => ExOk many x ∧ x.dep ≤ 1
  | .times f => -9 ≤ f ∧ f ≤ 9
  | .by i => i < 4
  | .whenL i c x => i < 4 ∧ (-1000 ≤ c ∧ c ≤ 1000) ∧ ExOk many x ∧ x.dep ≤ 1
  | .whenR i c x => i < 4 ∧ (-1000 ≤ c ∧ c ≤ 1000) ∧ ExOk many x ∧ x.dep ≤ 1
  | .whrL j c x => j < many ∧ (1 ≤ c ∧ c ≤ 1000) ∧ ExOk many x ∧ x.dep ≤ 1
  | .whrR j c x => j < many ∧ (1 ≤ c ∧ c ≤ 1000) ∧ ExOk many x ∧ x.dep ≤ 1
def CtxAt (K : PySem.W.Frag) (H : Hp) (c : Cx1) (v : V) : Prop := ∃ (p pa pr : Addr) (u : V), v = .ref p ∧ SqT K H p [.ref pa, .ref pr] ∧ SqT K H pa (c.lay u).1 ∧ SqT K H pr (c.lay u).2 ∧ c.leaf K H u
theorem CtxAt.imp {K : PySem.W.Frag} {H H' : Hp} {c : Cx1} {v : V} (x : CtxAt K H c v) (h : ∀ p xs, SqT K H p xs → SqT K H' p xs) : CtxAt K H' c v := by
  obtain ⟨p, pa, pr, u, e, q1, q2, q3, lf⟩ := x
  refine ⟨p, pa, pr, u, e, h _ _ q1, h _ _ q2, h _ _ q3, ?_⟩
  cases c with
  | l w x => exact ExAt.imp h lf
  | r w x => exact ExAt.imp h lf
  | times f => trivial
  | «by» i => trivial
  | whenL i c x => exact ExAt.imp h lf
  | whenR i c x => exact ExAt.imp h lf
  | whrL i c x => exact ExAt.imp h lf
  | whrR i c x => exact ExAt.imp h lf
def CtxsAt (K : PySem.W.Frag) (H : Hp) : List V → List Cx1 → Prop
  | [], [] => True
  | v :: vs, c :: cs => CtxAt K H c v ∧ CtxsAt K H vs cs
  | _, _ => False
theorem CtxsAt.imp {K : PySem.W.Frag} {H H' : Hp} (h : ∀ p xs, SqT K H p xs → SqT K H' p xs) : ∀ {vs : List V} {cs : List Cx1}, CtxsAt K H vs cs → CtxsAt K H' vs cs
  | [], [], _ => trivial
  | _ :: _, _ :: _, ⟨x, r⟩ => ⟨x.imp h, CtxsAt.imp h r⟩
theorem CtxsAt.len {K : PySem.W.Frag} {H : Hp} : ∀ {vs : List V} {cs : List Cx1}, CtxsAt K H vs cs → vs.length = cs.length
  | [], [], _ => rfl
  | _ :: _, _ :: _, ⟨_, r⟩ => by rw [List.length_cons, List.length_cons, r.len]
theorem CtxsAt.snoc {K : PySem.W.Frag} {H : Hp} {v : V} {c : Cx1} (x : CtxAt K H c v) : ∀ {vs : List V} {cs : List Cx1}, CtxsAt K H vs cs → CtxsAt K H (vs ++ [v]) (cs ++ [c])
  | [], [], _ => ⟨x, trivial⟩
  | _ :: _, _ :: _, ⟨y, r⟩ => ⟨y, CtxsAt.snoc x r⟩
theorem CtxsAt.get' {K : PySem.W.Frag} {H : Hp} : ∀ {vs : List V} {cs : List Cx1} {k : Nat} {v : V}, CtxsAt K H vs cs → vs[k]? = some v → ∃ c, cs[k]? = some c ∧ CtxAt K H c v
  | [], [], _, _, _, h => by simp at h
  | v' :: vs, e :: es, 0, v, ⟨x, r⟩, h => by
    have : v' = v := Option.some.inj h
    subst this
    exact ⟨e, rfl, x⟩
  | v' :: vs, e :: es, k + 1, v, ⟨x, r⟩, h => CtxsAt.get' (k := k) r h
theorem put_at {K : PySem.W.Frag} {H : Hp} {c : Cx1} {u v : V} {e : Ex} {p : Addr} (hp : SqT K H p ((c.lay u).1 ++ [v] ++ (c.lay u).2)) (lf : c.leaf K H u) (he : ExAt K H e v) : ExAt K H (c.put e) (.ref p) := by
  cases c with
  | l w x => exact ⟨p, v, u, rfl, hp, he, lf⟩
  | r w x => exact ⟨p, u, v, rfl, hp, lf, he⟩
  | times f => exact ⟨p, v, rfl, hp, he⟩
  | «by» i => exact ⟨p, v, rfl, hp, he⟩
  | whenL i c x => exact ⟨p, v, u, rfl, hp, he, lf⟩
  | whenR i c x => exact ⟨p, u, v, rfl, hp, lf, he⟩
  | whrL i c x => exact ⟨p, v, u, rfl, hp, he, lf⟩
  | whrR i c x => exact ⟨p, u, v, rfl, hp, lf, he⟩
theorem put_ok {many : Nat} {c : Cx1} {e : Ex} (o : c.ok many) (oe : ExOk many e) : ExOk many (c.put e) := by
  cases c with
  | l w x => exact ⟨oe, o.1⟩
  | r w x => exact ⟨o.1, oe⟩
  | times f => exact ⟨o, oe⟩
  | «by» i => exact ⟨o, oe⟩
  | whenL i c x => exact ⟨o.1, o.2.1, oe, o.2.2.1⟩
  | whenR i c x => exact ⟨o.1, o.2.1, o.2.2.1, oe⟩
  | whrL i c x => exact ⟨o.1, o.2.1, oe, o.2.2.1⟩
  | whrR i c x => exact ⟨o.1, o.2.1, o.2.2.1, oe⟩
theorem dep_pos (e : Ex) : 1 ≤ e.dep := by cases e <;> (unfold Ex.dep; omega)
theorem put_dep {many : Nat} {c : Cx1} {e : Ex} (o : c.ok many) : (c.put e).dep ≤ e.dep + 1 := by
  have he := dep_pos e
  cases c with
  | l w x => show max e.dep x.dep + 1 ≤ _; have := o.2; omega
  | r w x => show max x.dep e.dep + 1 ≤ _; have := o.2; omega
  | times f => exact Nat.le_refl _
  | «by» i => exact Nat.le_refl _
  | whenL i c x => show max e.dep x.dep + 1 ≤ _; have := o.2.2.2; omega
  | whenR i c x => show max x.dep e.dep + 1 ≤ _; have := o.2.2.2; omega
  | whrL i c x => show max e.dep x.dep + 1 ≤ _; have := o.2.2.2; omega
  | whrR i c x => show max x.dep e.dep + 1 ≤ _; have := o.2.2.2; omega
def putAll (cs : List Cx1) (e : Ex) : Ex := cs.foldl (fun e c => c.put e) e
theorem putAll_ok {many : Nat} : ∀ {cs : List Cx1} {e : Ex}, (∀ c ∈ cs, c.ok many) → ExOk many e → ExOk many (putAll cs e)
  | [], _, _, h => h
  | c :: cs, e, o, h => putAll_ok (cs := cs) (e := c.put e) (fun c' h' => o c' (List.mem_cons_of_mem _ h')) (put_ok (o c List.mem_cons_self) h)
theorem putAll_dep {many : Nat} : ∀ {cs : List Cx1} {e : Ex}, (∀ c ∈ cs, c.ok many) → (putAll cs e).dep ≤ e.dep + cs.length
  | [], _, _ => Nat.le_refl _
  | c :: cs, e, o => by
    have h1 := putAll_dep (cs := cs) (e := c.put e) (fun c' h' => o c' (List.mem_cons_of_mem _ h'))
    have h2 := put_dep (e := e) (o c List.mem_cons_self)
    show (putAll cs (c.put e)).dep ≤ _
    rw [List.length_cons]
    omega
def fac1 (rs : List Int) (F : Int) : Cx1 → Int
  | .times f => F * f
  | .by i => F * rs.getD i 0
  | .r .less _ => 0 - F
  | _ => F
def fac (rs : List Int) (cs : List Cx1) : Int := cs.foldl (fac1 rs) 1

/-! ### a greater part put in -/
def Btw (d m : Int) : Prop := (0 ≤ d ∧ d ≤ m) ∨ (m ≤ d ∧ d ≤ 0)
theorem btw_mul {f d m : Int} (h : Btw d m) : Btw (f * d) (f * m) := by
  rcases Int.le_total 0 f with hf | hf
  · rcases h with ⟨h1, h2⟩ | ⟨h1, h2⟩
    · exact .inl ⟨Int.mul_nonneg hf h1, Int.mul_le_mul_of_nonneg_left h2 hf⟩
    · exact .inr ⟨Int.mul_le_mul_of_nonneg_left h1 hf, Int.mul_nonpos_of_nonneg_of_nonpos hf h2⟩
  · rcases h with ⟨h1, h2⟩ | ⟨h1, h2⟩
    · exact .inr ⟨Int.mul_le_mul_of_nonpos_left hf h2, Int.mul_nonpos_of_nonpos_of_nonneg hf h1⟩
    · exact .inl ⟨Int.mul_nonneg_of_nonpos_of_nonpos hf h2, Int.mul_le_mul_of_nonpos_left hf h1⟩
theorem btw_zero {m : Int} : Btw 0 m := by
  unfold Btw
  omega
theorem btw_jw {d m x y z : Int} (w : W4) (h : Btw d m) (e : d = y - x) (hw : w ≠ .less) : Btw (jw w y z - jw w x z) m := by
  unfold Btw at *
  cases w with
  | sum => simp only [jw]; omega
  | less => exact absurd rfl hw
  | least => simp only [jw]; split <;> split <;> omega
  | most => simp only [jw]; split <;> split <;> omega
theorem btw_jw' {d m x y z : Int} (w : W4) (h : Btw d m) (e : d = y - x) (hw : w ≠ .less) : Btw (jw w z y - jw w z x) m := by
  unfold Btw at *
  cases w with
  | sum => simp only [jw]; omega
  | less => exact absurd rfl hw
  | least => simp only [jw]; split <;> split <;> omega
  | most => simp only [jw]; split <;> split <;> omega
theorem btw_step {rs ss : List Int} {c : Cx1} {e1 e2 : Ex} {F P : Int} (h : Btw (wo rs ss e2 - wo rs ss e1) (F * P)) : Btw (wo rs ss (c.put e2) - wo rs ss (c.put e1)) (fac1 rs F c * P) := by
  cases c with
  | l w x =>
    cases w with
    | less =>
      show Btw ((wo rs ss e2 - wo rs ss x) - (wo rs ss e1 - wo rs ss x)) (F * P)
      rw [show (wo rs ss e2 - wo rs ss x) - (wo rs ss e1 - wo rs ss x) = wo rs ss e2 - wo rs ss e1 by omega]
      exact h
    | sum => exact btw_jw .sum h rfl (by simp)
    | least => exact btw_jw .least h rfl (by simp)
    | most => exact btw_jw .most h rfl (by simp)
  | r w x =>
    cases w with
    | less =>
      show Btw ((wo rs ss x - wo rs ss e2) - (wo rs ss x - wo rs ss e1)) ((0 - F) * P)
      rw [Int.sub_mul, Int.zero_mul]
      unfold Btw at *
      omega
    | sum => exact btw_jw' .sum h rfl (by simp)
    | least => exact btw_jw' .least h rfl (by simp)
    | most => exact btw_jw' .most h rfl (by simp)
  | times f =>
    show Btw (f * wo rs ss e2 - f * wo rs ss e1) (F * f * P)
    rw [← Int.mul_sub, Int.mul_comm F f, Int.mul_assoc]
    exact btw_mul h
  | «by» i =>
    show Btw (rs.getD i 0 * wo rs ss e2 - rs.getD i 0 * wo rs ss e1) (F * rs.getD i 0 * P)
    rw [← Int.mul_sub, Int.mul_comm F, Int.mul_assoc]
    exact btw_mul h
  | whenL i c x =>
    show Btw ((if rs.getD i 0 < c then wo rs ss e2 else wo rs ss x) - (if rs.getD i 0 < c then wo rs ss e1 else wo rs ss x)) (F * P)
    split
    · exact h
    · rw [Int.sub_self]
      exact btw_zero
  | whenR i c x =>
    show Btw ((if rs.getD i 0 < c then wo rs ss x else wo rs ss e2) - (if rs.getD i 0 < c then wo rs ss x else wo rs ss e1)) (F * P)
    split
    · rw [Int.sub_self]
      exact btw_zero
    · exact h
  | whrL j c x =>
    show Btw ((if 1000 * ss.getD j 0 < c * ss.sum then wo rs ss e2 else wo rs ss x) - (if 1000 * ss.getD j 0 < c * ss.sum then wo rs ss e1 else wo rs ss x)) (F * P)
    split
    · exact h
    · rw [Int.sub_self]
      exact btw_zero
  | whrR j c x =>
    show Btw ((if 1000 * ss.getD j 0 < c * ss.sum then wo rs ss x else wo rs ss e2) - (if 1000 * ss.getD j 0 < c * ss.sum then wo rs ss x else wo rs ss e1)) (F * P)
    split
    · rw [Int.sub_self]
      exact btw_zero
    · exact h
theorem btw_all {rs ss : List Int} {P : Int} : ∀ {cs : List Cx1} {e1 e2 : Ex} {F : Int}, Btw (wo rs ss e2 - wo rs ss e1) (F * P) → Btw (wo rs ss (putAll cs e2) - wo rs ss (putAll cs e1)) (cs.foldl (fac1 rs) F * P)
  | [], _, _, _, h => h
  | c :: cs, e1, e2, F, h => btw_all (cs := cs) (e1 := c.put e1) (e2 := c.put e2) (F := fac1 rs F c) (btw_step h)
theorem moved {rs ss : List Int} {cs : List Cx1} {e : Ex} {p : Int} (h : 0 ≤ p * ss.sum) : Btw (wo rs ss (putAll cs (.two .sum e (.fig p))) - wo rs ss (putAll cs e)) (fac rs cs * p * ss.sum) := by
  rw [Int.mul_assoc]
  refine btw_all (F := 1) ?_
  show Btw (wo rs ss e + p * ss.sum - wo rs ss e) (1 * (p * ss.sum))
  rw [Int.one_mul]
  unfold Btw
  omega

/-! ### worths lie in their spans -/
theorem le_sum : ∀ {ss : List Int} {j : Nat}, (∀ x ∈ ss, 0 ≤ x) → j < ss.length → ss.getD j 0 ≤ ss.sum
  | [], _, _, h => by simp at h
  | x :: ss, 0, h, _ => by
    have := sum_nonneg (ms := ss) fun y hy => h y (List.mem_cons_of_mem _ hy)
    show x ≤ (x :: ss).sum
    rw [List.sum_cons]
    omega
  | x :: ss, j + 1, h, hj => by
    have h1 := le_sum (ss := ss) (j := j) (fun y hy => h y (List.mem_cons_of_mem _ hy)) (by simpa using hj)
    have h2 := h x List.mem_cons_self
    show ss.getD j 0 ≤ (x :: ss).sum
    rw [List.sum_cons]
    omega
theorem spn_le : ∀ e : Ex, (spn e).1 ≤ (spn e).2
  | .fig _ => Int.le_refl _
  | .reg _ => by
    show (-1000 : Int) ≤ 1000
    decide
  | .share _ => by
    show (0 : Int) ≤ 1000
    decide
  | .two w a b => by
    have ha := spn_le a
    have hb := spn_le b
    show (js w (spn a) (spn b)).1 ≤ (js w (spn a) (spn b)).2
    cases w with
    | sum => show _ + _ ≤ _ + _; omega
    | less => show _ - _ ≤ _ - _; omega
    | least => show mn _ _ ≤ mn _ _; unfold mn; split <;> split <;> omega
    | most => show mx _ _ ≤ mx _ _; unfold mx; split <;> split <;> omega
  | .times f a => by
    show mn _ _ ≤ mx _ _
    unfold mn mx
    split <;> split <;> omega
  | .by _ a => by
    have h1 : 0 ≤ ab (spn a).1 := by unfold ab; split <;> omega
    have h2 := le_mx (ab (spn a).1) (ab (spn a).2)
    show -1000 * _ ≤ 1000 * _
    omega
  | .when _ _ a b => by
    have ha := spn_le a
    have h1 := mn_le (spn a).1 (spn b).1
    have h2 := le_mx (spn a).2 (spn b).2
    show mn _ _ ≤ mx _ _
    omega
  | .whr _ _ a b => by
    have ha := spn_le a
    have h1 := mn_le (spn a).1 (spn b).1
    have h2 := le_mx (spn a).2 (spn b).2
    show mn _ _ ≤ mx _ _
    omega
theorem mulr_le {a b n : Int} (h : a ≤ b) (hn : 0 ≤ n) : a * n ≤ b * n := Int.mul_le_mul_of_nonneg_right h hn
theorem in_span {many : Nat} {rs ss : List Int} (hr : rs.length = 4) (hrb : ∀ x ∈ rs, -1000 ≤ x ∧ x ≤ 1000) (hs : ss.length = many) (hsb : ∀ x ∈ ss, 0 ≤ x) : ∀ e : Ex, ExOk many e → (spn e).1 * ss.sum ≤ wo rs ss e ∧ wo rs ss e ≤ (spn e).2 * ss.sum
  | .fig c, _ => ⟨Int.le_refl _, Int.le_refl _⟩
  | .reg i, o => by
    have hn := sum_nonneg hsb
    have h := hrb _ (getD_mem (ns := rs) (i := i) (by rw [hr]; exact o))
    exact ⟨mulr_le h.1 hn, mulr_le h.2 hn⟩
  | .share j, o => by
    have o : j < many := o
    have h1 := le_sum (j := j) hsb (by omega)
    have h2 := hsb _ (getD_mem (ns := ss) (i := j) (by omega))
    show 0 * ss.sum ≤ 1000 * ss.getD j 0 ∧ 1000 * ss.getD j 0 ≤ 1000 * ss.sum
    omega
  | .two w a b, o => by
    have ha := in_span hr hrb hs hsb a o.1
    have hb := in_span hr hrb hs hsb b o.2
    have hn := sum_nonneg hsb
    show (js w (spn a) (spn b)).1 * ss.sum ≤ jw w (wo rs ss a) (wo rs ss b) ∧ jw w (wo rs ss a) (wo rs ss b) ≤ (js w (spn a) (spn b)).2 * ss.sum
    cases w with
    | sum =>
      show ((spn a).1 + (spn b).1) * ss.sum ≤ wo rs ss a + wo rs ss b ∧ wo rs ss a + wo rs ss b ≤ ((spn a).2 + (spn b).2) * ss.sum
      rw [Int.add_mul, Int.add_mul]
      omega
    | less =>
      show ((spn a).1 - (spn b).2) * ss.sum ≤ wo rs ss a - wo rs ss b ∧ wo rs ss a - wo rs ss b ≤ ((spn a).2 - (spn b).1) * ss.sum
      rw [Int.sub_mul, Int.sub_mul]
      omega
    | least =>
      have h1 := mn_le (spn a).1 (spn b).1
      have h3 := mulr_le h1.1 hn
      have h4 := mulr_le h1.2 hn
      have h5 := mn_or (spn a).2 (spn b).2
      show mn (spn a).1 (spn b).1 * ss.sum ≤ (if wo rs ss b < wo rs ss a then wo rs ss b else wo rs ss a) ∧ (if wo rs ss b < wo rs ss a then wo rs ss b else wo rs ss a) ≤ mn (spn a).2 (spn b).2 * ss.sum
      rcases h5 with h5 | h5 <;> rw [h5] <;> split <;> omega
    | most =>
      have h1 := le_mx (spn a).2 (spn b).2
      have h3 := mulr_le h1.1 hn
      have h4 := mulr_le h1.2 hn
      have h5 := mx_or (spn a).1 (spn b).1
      show mx (spn a).1 (spn b).1 * ss.sum ≤ (if wo rs ss b > wo rs ss a then wo rs ss b else wo rs ss a) ∧ (if wo rs ss b > wo rs ss a then wo rs ss b else wo rs ss a) ≤ mx (spn a).2 (spn b).2 * ss.sum
      rcases h5 with h5 | h5 <;> rw [h5] <;> split <;> omega
  | .times f a, o => by
    have ha := in_span hr hrb hs hsb a o.2
    have hn := sum_nonneg hsb
    have m1 := mn_le (f * (spn a).1) (f * (spn a).2)
    have m2 := le_mx (f * (spn a).1) (f * (spn a).2)
    have n1 := mulr_le m1.1 hn
    have n2 := mulr_le m1.2 hn
    have n3 := mulr_le m2.1 hn
    have n4 := mulr_le m2.2 hn
    rw [Int.mul_assoc] at n1 n2 n3 n4
    show mn _ _ * ss.sum ≤ f * wo rs ss a ∧ f * wo rs ss a ≤ mx _ _ * ss.sum
    rcases Int.le_total 0 f with hf | hf
    · have p1 := Int.mul_le_mul_of_nonneg_left ha.1 hf
      have p2 := Int.mul_le_mul_of_nonneg_left ha.2 hf
      omega
    · have p1 := Int.mul_le_mul_of_nonpos_left hf ha.1
      have p2 := Int.mul_le_mul_of_nonpos_left hf ha.2
      omega
  | .by i a, o => by
    have ha := in_span hr hrb hs hsb a o.2
    have hn := sum_nonneg hsb
    have hg := hrb _ (getD_mem (ns := rs) (i := i) (by rw [hr]; exact o.1))
    generalize ht : mx (ab (spn a).1) (ab (spn a).2) = t
    have t1 : -t ≤ (spn a).1 ∧ (spn a).2 ≤ t := by
      have h2 := le_mx (ab (spn a).1) (ab (spn a).2)
      rw [ht] at h2
      have h3 : -(spn a).1 ≤ ab (spn a).1 := by unfold ab; split <;> omega
      have h4 : (spn a).2 ≤ ab (spn a).2 := by unfold ab; split <;> omega
      omega
    have w1 : -(t * ss.sum) ≤ wo rs ss a := by
      have := mulr_le t1.1 hn
      rw [Int.neg_mul] at this
      omega
    have w2 : wo rs ss a ≤ t * ss.sum := by
      have := mulr_le t1.2 hn
      omega
    show (-1000 * mx (ab (spn a).1) (ab (spn a).2)) * ss.sum ≤ rs.getD i 0 * wo rs ss a ∧ rs.getD i 0 * wo rs ss a ≤ (1000 * mx (ab (spn a).1) (ab (spn a).2)) * ss.sum
    rw [ht, Int.mul_assoc, Int.mul_assoc]
    generalize rs.getD i 0 = g at *
    generalize t * ss.sum = T at *
    generalize wo rs ss a = x at *
    have hT : 0 ≤ T := by omega
    rcases Int.le_total 0 g with hgn | hgn
    · have p1 := Int.mul_le_mul_of_nonneg_left w1 hgn
      have p2 := Int.mul_le_mul_of_nonneg_left w2 hgn
      have p3 := Int.mul_le_mul_of_nonneg_right hg.2 hT
      rw [Int.mul_neg] at p1
      omega
    · have p1 := Int.mul_le_mul_of_nonpos_left hgn w1
      have p2 := Int.mul_le_mul_of_nonpos_left hgn w2
      have p3 := Int.mul_le_mul_of_nonneg_right hg.1 hT
      rw [Int.mul_neg] at p1
      omega
  | .when i c a b, o => by
    have ha := in_span hr hrb hs hsb a o.2.2.1
    have hb := in_span hr hrb hs hsb b o.2.2.2
    have hn := sum_nonneg hsb
    have m1 := mn_le (spn a).1 (spn b).1
    have m2 := le_mx (spn a).2 (spn b).2
    have n1 := mulr_le m1.1 hn
    have n2 := mulr_le m1.2 hn
    have n3 := mulr_le m2.1 hn
    have n4 := mulr_le m2.2 hn
    show mn _ _ * ss.sum ≤ (if rs.getD i 0 < c then wo rs ss a else wo rs ss b) ∧ (if rs.getD i 0 < c then wo rs ss a else wo rs ss b) ≤ mx _ _ * ss.sum
    split <;> omega
  | .whr j c a b, o => by
    have ha := in_span hr hrb hs hsb a o.2.2.1
    have hb := in_span hr hrb hs hsb b o.2.2.2
    have hn := sum_nonneg hsb
    have m1 := mn_le (spn a).1 (spn b).1
    have m2 := le_mx (spn a).2 (spn b).2
    have n1 := mulr_le m1.1 hn
    have n2 := mulr_le m1.2 hn
    have n3 := mulr_le m2.1 hn
    have n4 := mulr_le m2.2 hn
    show mn _ _ * ss.sum ≤ (if 1000 * ss.getD j 0 < c * ss.sum then wo rs ss a else wo rs ss b) ∧ (if 1000 * ss.getD j 0 < c * ss.sum then wo rs ss a else wo rs ss b) ≤ mx _ _ * ss.sum
    split <;> omega

/-! ### promises -/
def spAround (K : PySem.W.Frag) : Sp := fun vs H Q _ => ∃ (a : Addr) (many n : Nat), vs = [.ref a, .int (many : Int)] ∧ 2 ≤ many ∧ many ≤ 3 ∧ HandAt H a n ∧ n ≤ 999998000 ∧
  ∀ H' p xs cs, But a H H' → HandAt H' a (n + 90) → p ≠ a → H' p = some (.lst xs) → CtxsAt K H' xs cs → (∀ c ∈ cs, c.ok many) → cs.length ≤ 4 → Q (.ref p) H'
def spPut (K : PySem.W.Frag) : Sp := fun vs H Q _ => ∃ (p : Addr) (v : V) (xs : List V) (cs : List Cx1) (e : Ex), vs = [.ref p, v] ∧ H p = some (.lst xs) ∧ CtxsAt K H xs cs ∧ ExAt K H e v ∧ ∀ H' u, Same H H' → ExAt K H' (putAll cs e) u → Q u H'
def spFac (K : PySem.W.Frag) (many : Nat) : Sp := fun vs H Q _ => ∃ (p : Addr) (r : V) (xs : List V) (cs : List Cx1) (rs : List Int), vs = [.ref p, r] ∧ H p = some (.lst xs) ∧ CtxsAt K H xs cs ∧ (∀ c ∈ cs, c.ok many) ∧ RegsAt K H rs r ∧ Q (.int (fac rs cs)) H
end NG

namespace NG
open PySem PySem.Spec PyProof.Rows L2

/-! ### xs[::-1] -/
theorem pe_revL {X : Cx} {e st : Expr} {te ts : TE} {pos p2 : Pos} (he : PE X e te) (hs : PE X st ts) : PE X (.Subscript e (.Slice none none (some st) p2) pos)
    (fun σ H Q => te σ H fun x H1 => ts σ H1 fun y H2 => y = .int (-1) ∧ ∃ a xs, x = .ref a ∧ SqL X.K H2 a xs ∧ ∀ p, H2 p = none → Q (.ref p) (upd H2 p (.lst xs.reverse))) := by
  refine ⟨fun pins s σ H Q I h => ?_⟩
  refine Subscript_ (thn (he.run pins s σ H _ I h) fun v s1 ⟨x, H1, I1, r1, q1⟩ => ?_)
  refine wpAny_Slice ?_
  rw [evalPart_none]
  refine wpAny_pure (wpAny_pure ?_)
  rw [evalPart_some]
  refine thn (hs.run pins s1 σ H1 _ I1 q1) fun vk s2 ⟨y, H2, I2, r2, q2⟩ => ?_
  obtain ⟨rfl, a, xs, rfl, hx, q⟩ := q2
  obtain ⟨t, rfl⟩ := r2
  cases r1
  obtain ⟨its, rv, ht, hz⟩ := I2.list hx
  have I3 : Inv X pins σ H2 { s2 with heap := s2.heap.push { cls := .type "slice", data := .fields #[.none, .none, .int (-1) t] } } := I2.kept (t' := s2.toks) fun b ob q => Heap.get?_push_of_some _ q
  obtain ⟨its', rv', ht', _⟩ := I3.list hx
  have hl := rv'.length
  refine tail_any (ops := [.ref a, .ref s2.heap.objs.size]) ht'.isList.typeIs slot_list_getitem.lookup ?_ (by with_unfolding_all rfl)
  refine wpAny_getItem_list_slice ht'.isList (Heap.IsSliceOf.new ..) .none .none (.int (-1) t) (by decide) ?_ (by rw [List.size_toArray]; omega)
  rw [PySem.W.krv_pick]
  refine ⟨.ref _, _, I3.laid (t' := s2.toks) (o := .lst xs.reverse) (fun b ob q => Heap.get?_push_of_some _ q) (Nat.le_refl _) ?_, rfl, q _ (I3.hok.fresh (Nat.le_refl _))⟩
  refine ⟨by rw [List.length_reverse]; exact hz, its'.reverse, 0, ?_, Heap.get?_push_size _ rfl⟩
  have rev : ∀ {xs : List V} {us : List Value}, Vals xs us → Vals xs.reverse us.reverse := by
    intro xs us r
    induction r with
    | nil => exact .nil
    | cons h t ih =>
      rw [List.reverse_cons, List.reverse_cons]
      exact ih.append (.cons h .nil)
  exact rev rv'

/-! ### calls by keywords alone, handed in from the last parameter to the first -/
theorem Vals.rev {xs : List V} {us : List Value} (r : Vals xs us) : Vals xs.reverse us.reverse := by
  induction r with
  | nil => exact .nil
  | cons h t ih =>
    rw [List.reverse_cons, List.reverse_cons]
    exact ih.append (.cons h .nil)
structure CalK (P : Program) (w : World) (K : PySem.W.Frag) (mg : Str → Option Value) (base : Heap) (k : Nat) (x : Str) (ks : List Str) (sp : Sp) : Prop where
  ex : ∃ (f : Addr) (fd : FuncData), FnG P w K mg base k f fd ks.reverse sp ∧ mg x = some (.ref f) ∧ PySem.W.keepIn K (.ref f) = true ∧ ∀ (s : Shared) (ws : List Value), ws.length = ks.length → BindsTo s fd ⟨[], ks.zip ws⟩ (ks.reverse.zip ws.reverse)
section
variable {X : Cx} {k j : Nat} {x : Str} {ks : List Str} {sp : Sp} {p pos : Pos} {kws : List Keyword} {tk : TA}
theorem pe_kw (c : CalK X.prog X.w X.K X.mg X.base k x ks sp) (hgd : X.A.guards = some []) (hr : Room j X.A) (hk : k ≤ j) (hg : Gl X x) (hkw : PK X kws tk) (hall : (backToKw pos (keywordEach kws X.env)).all (·.1.isSome) = true := by rfl) (hks : (backToKw pos (keywordEach kws X.env)).filterMap (·.1) = ks := by rfl)
    (hdb : (x == ("__debug__" : Str)) = false := by decide) (hpl : ((backTo pos (starEach [] X.env)).any (·.1) || (backToKw pos (keywordEach kws X.env)).any (·.1.isNone)) = false := by rfl) :
    PE X (.Call (.Name x p) [] kws pos) (fun σ H Q => tk σ H fun zs H2 => zs.length = ks.length ∧ sp zs.reverse H2 Q E0) := by
  obtain ⟨f, fd, F, hm, kp, b⟩ := c.ex
  refine ⟨fun pins s σ H Q I h => wpAny_Call_Name_kw (ld_glob I hg hm ?_ hdb)⟩
  refine PySem.W.callWith_KW0 (h₀ := X.base) I.ok.mod.kin kp hall (thn (hkw.run pos pins s σ H _ I h) fun ws s2 ⟨zs, H2, I2, rz, hl, q⟩ => ⟨I2.kIn, ?_⟩) hpl
  rw [hks]
  refine wpAny_call (codeAny_mono (F.run X.A X.stack s2 H2 ⟨[], ks.zip ws⟩ ws.reverse zs.reverse Q hgd (hr.mono hk) I2.env0 (b s2 ws (by rw [← rz.length]; exact hl)) (Vals.rev rz) q) fun res s' hq => ?_)
  match res, hq with
  | .ok (.ret u), hq => exact I2.after hq
  | .ok .next, hq => exact False.elim hq
  | .ok .brk, hq => exact False.elim hq
  | .ok .cont, hq => exact False.elim hq
  | .error e, hq => exact False.elim hq
end

/-! ### an expression as its items -/
inductive Itm where
  | s (x : Str) | i (c : Int) | k (e : Ex)
def ItAt (K : PySem.W.Frag) (H : Hp) : Itm → V → Prop
  | .s x, v => v = .str x
  | .i c, v => v = .int c
  | .k e, v => ExAt K H e v
def ItsAt (K : PySem.W.Frag) (H : Hp) : List V → List Itm → Prop
  | [], [] => True
  | v :: vs, t :: ts => ItAt K H t v ∧ ItsAt K H vs ts
  | _, _ => False
def Ex.items : Ex → List Itm
  | .fig c => [.s "fig", .i c]
  | .reg i => [.s "reg", .i (i : Int)]
  | .share j => [.s "share", .i (j : Int)]
  | .two w a b => [.s (wn w), .k a, .k b]
  | .times f a => [.s "times", .i f, .k a]
  | .by i a => [.s "by", .i (i : Int), .k a]
  | .when i c a b => [.s "when", .i (i : Int), .i c, .k a, .k b]
  | .whr j c a b => [.s "where", .i (j : Int), .i c, .k a, .k b]
def kidsI : List Itm → List Ex
  | [] => []
  | .k e :: r => e :: kidsI r
  | .s _ :: r => kidsI r
  | .i _ :: r => kidsI r
theorem kidsI_items (e : Ex) : kidsI e.items = e.kids := by cases e <;> rfl
theorem kidsI_append : ∀ (l r : List Itm), kidsI (l ++ r) = kidsI l ++ kidsI r
  | [], r => rfl
  | .k e :: l, r => by
    show e :: kidsI (l ++ r) = e :: (kidsI l ++ kidsI r)
    rw [kidsI_append l r]
  | .s _ :: l, r => kidsI_append l r
  | .i _ :: l, r => kidsI_append l r
theorem ExAt.its {K : PySem.W.Frag} {H : Hp} : ∀ {e : Ex} {v : V}, ExAt K H e v → ∃ p xs, v = .ref p ∧ SqT K H p xs ∧ ItsAt K H xs e.items
  | .fig _, _, ⟨p, e, q⟩ => ⟨p, _, e, q, rfl, rfl, trivial⟩
  | .reg _, _, ⟨p, e, q⟩ => ⟨p, _, e, q, rfl, rfl, trivial⟩
  | .share _, _, ⟨p, e, q⟩ => ⟨p, _, e, q, rfl, rfl, trivial⟩
  | .two _ _ _, _, ⟨p, x, y, e, q, a, b⟩ => ⟨p, _, e, q, rfl, a, b, trivial⟩
  | .times _ _, _, ⟨p, x, e, q, a⟩ => ⟨p, _, e, q, rfl, rfl, a, trivial⟩
  | .by _ _, _, ⟨p, x, e, q, a⟩ => ⟨p, _, e, q, rfl, rfl, a, trivial⟩
  | .when _ _ _ _, _, ⟨p, x, y, e, q, a, b⟩ => ⟨p, _, e, q, rfl, rfl, rfl, a, b, trivial⟩
  | .whr _ _ _ _, _, ⟨p, x, y, e, q, a, b⟩ => ⟨p, _, e, q, rfl, rfl, rfl, a, b, trivial⟩
theorem ItsAt.get {K : PySem.W.Frag} {H : Hp} : ∀ {vs : List V} {ts : List Itm} {k : Nat} {v : V}, ItsAt K H vs ts → vs[k]? = some v → ∃ t, ts[k]? = some t ∧ ItAt K H t v
  | [], [], _, _, _, h => by simp at h
  | v' :: vs, t :: ts, 0, v, ⟨x, r⟩, h => by
    have : v' = v := Option.some.inj h
    subst this
    exact ⟨t, rfl, x⟩
  | v' :: vs, t :: ts, k + 1, v, ⟨x, r⟩, h => ItsAt.get (k := k) r h
theorem ItsAt.len {K : PySem.W.Frag} {H : Hp} : ∀ {vs : List V} {ts : List Itm}, ItsAt K H vs ts → vs.length = ts.length
  | [], [], _ => rfl
  | _ :: _, _ :: _, ⟨_, r⟩ => by rw [List.length_cons, List.length_cons, r.len]
theorem tyx_tup {K : PySem.W.Frag} {H : Hp} {p : Addr} {xs : List V} (h : SqT K H p xs) : TyX K H (.ref p) (.type "tuple") := by
  rcases h with (h | ⟨o, h⟩) | ⟨o, its, n, h1, h2, _⟩
  · exact .base (.tup h)
  · exact .fTuple h
  · exact .kTuple h1 h2
def Itm.isK : Itm → Bool
  | .k _ => true
  | _ => false
theorem isi_item {K : PySem.W.Frag} {H : Hp} {t : Itm} {v : V} (h : ItAt K H t v) : ∃ ty, TyX K H v ty ∧ PySem.W.kitOne K ty (.type "tuple") = some t.isK := by
  cases t with
  | s x =>
    have h : v = .str x := h
    subst h
    exact ⟨_, .base (.str x), kit_ty (show kitB "str" "tuple" = some false by decide +kernel)⟩
  | i c =>
    have h : v = .int c := h
    subst h
    exact ⟨_, .base (.int c), kit_ty (show kitB "int" "tuple" = some false by decide +kernel)⟩
  | k e =>
    obtain ⟨p, xs, rfl, hp, _⟩ := ExAt.its h
    exact ⟨_, tyx_tup hp, kit_ty (show kitB "tuple" "tuple" = some true by decide +kernel)⟩

/-! ### as data, for repr -/
def toI : Itm → (Ex → PyData) → PyData
  | .s x, _ => .str x
  | .i c, _ => .int c
  | .k e, f => f e
def toD : Ex → PyData
  | .fig c => .tuple [.str "fig", .int c]
  | .reg i => .tuple [.str "reg", .int (i : Int)]
  | .share j => .tuple [.str "share", .int (j : Int)]
  | .two w a b => .tuple [.str (wn w), toD a, toD b]
  | .times f a => .tuple [.str "times", .int f, toD a]
  | .by i a => .tuple [.str "by", .int (i : Int), toD a]
  | .when i c a b => .tuple [.str "when", .int (i : Int), .int c, toD a, toD b]
  | .whr j c a b => .tuple [.str "where", .int (j : Int), .int c, toD a, toD b]
theorem ExAt.dp {K : PySem.W.Frag} {H : Hp} : ∀ {e : Ex} {v : V}, ExAt K H e v → Dp K H v (toD e)
  | .fig _, _, ⟨p, e, q⟩ => by subst e; exact .tup q (.cons (.str _) (.cons (.int _) .nil))
  | .reg _, _, ⟨p, e, q⟩ => by subst e; exact .tup q (.cons (.str _) (.cons (.int _) .nil))
  | .share _, _, ⟨p, e, q⟩ => by subst e; exact .tup q (.cons (.str _) (.cons (.int _) .nil))
  | .two _ _ _, _, ⟨p, x, y, e, q, a, b⟩ => by subst e; exact .tup q (.cons (.str _) (.cons a.dp (.cons b.dp .nil)))
  | .times _ _, _, ⟨p, x, e, q, a⟩ => by subst e; exact .tup q (.cons (.str _) (.cons (.int _) (.cons a.dp .nil)))
  | .by _ _, _, ⟨p, x, e, q, a⟩ => by subst e; exact .tup q (.cons (.str _) (.cons (.int _) (.cons a.dp .nil)))
  | .when _ _ _ _, _, ⟨p, x, y, e, q, a, b⟩ => by subst e; exact .tup q (.cons (.str _) (.cons (.int _) (.cons (.int _) (.cons a.dp (.cons b.dp .nil)))))
  | .whr _ _ _ _, _, ⟨p, x, y, e, q, a, b⟩ => by subst e; exact .tup q (.cons (.str _) (.cons (.int _) (.cons (.int _) (.cons a.dp (.cons b.dp .nil)))))
/-- short enough to be shown: every number below 2 ^ 600, every sign small -/
structure Shw (d : PyData) (w k : Nat) : Prop where
  sh : d.showable = true
  lf : d.leavesShort 700 = true
  wt : d.weight ≤ w
  dp : d.depth ≤ k
theorem log_of {i : Int} (h : i.natAbs < 2 ^ 600) : i.natAbs.log2 < 600 := PySem.Flt.log2_lt_of (by decide) h
theorem Shw.int {i : Int} (h : i.natAbs < 2 ^ 600) : Shw (.int i) 601 0 := by
  have hl := log_of h
  refine ⟨?_, ?_, ?_, Nat.le_refl _⟩
  · show decide (i.natAbs.log2 < 1920) = true
    exact decide_eq_true (by omega)
  · show decide ((PyData.shown (.int i)).length ≤ 700) = true
    refine decide_eq_true ?_
    have e := int_text_length_le (k := 600) (by decide) hl
    show (Str.ofString (toString i)).length ≤ 700
    rw [PySem.ofString_length]
    omega
  · show (if i == 0 then 0 else i.natAbs.log2 + 1) ≤ 601
    split <;> omega
theorem Shw.small {i : Int} (h : i.natAbs < 2 ^ 15) : Shw (.int i) 15 0 := by
  have hl : i.natAbs.log2 < 15 := PySem.Flt.log2_lt_of (by decide) h
  have h6 := Shw.int (i := i) (Nat.lt_of_lt_of_le h (Nat.pow_le_pow_right (by decide) (by decide)))
  refine ⟨h6.sh, h6.lf, ?_, Nat.le_refl _⟩
  show (if i == 0 then 0 else i.natAbs.log2 + 1) ≤ 15
  split <;> omega
theorem Shw.str {x : Str} (h : (x.cps.toList.all fun c => decide (c < 16 ^ 8)) = true) (hl : x.cps.size ≤ 10) : Shw (.str x) 10 0 := ⟨rfl, h, hl, Nat.le_refl _⟩
structure ShwAll (ds : List PyData) (w k : Nat) : Prop where
  sh : PyData.showableAll ds = true
  lf : PyData.leavesShortAll 700 ds = true
  wt : PyData.weightAll ds ≤ w
  dp : PyData.depthAll ds ≤ k
theorem ShwAll.nil {k : Nat} : ShwAll [] 0 k := ⟨rfl, rfl, Nat.le_refl _, Nat.zero_le _⟩
theorem ShwAll.cons {d : PyData} {ds : List PyData} {w1 w2 k1 k2 k : Nat} (h1 : Shw d w1 k1) (h2 : ShwAll ds w2 k2) (hk1 : k1 ≤ k) (hk2 : k2 ≤ k) : ShwAll (d :: ds) (w1 + 1 + w2) k := by
  refine ⟨?_, ?_, ?_, ?_⟩
  · show (d.showable && PyData.showableAll ds) = true
    rw [h1.sh, h2.sh]
    rfl
  · show (d.leavesShort 700 && PyData.leavesShortAll 700 ds) = true
    rw [h1.lf, h2.lf]
    rfl
  · show d.weight + 1 + PyData.weightAll ds ≤ _
    have := h1.wt
    have := h2.wt
    omega
  · show max d.depth (PyData.depthAll ds) ≤ k
    have := h1.dp
    have := h2.dp
    omega
theorem ShwAll.tup {ds : List PyData} {w k : Nat} (h : ShwAll ds w k) : Shw (.tuple ds) w (k + 1) := ⟨h.sh, h.lf, h.wt, by show PyData.depthAll ds + 1 ≤ k + 1; have := h.dp; omega⟩
theorem ShwAll.lst {ds : List PyData} {w k : Nat} (h : ShwAll ds w k) : Shw (.list ds) w (k + 1) := ⟨h.sh, h.lf, h.wt, by show PyData.depthAll ds + 1 ≤ k + 1; have := h.dp; omega⟩
theorem Shw.mono {d : PyData} {w w' k k' : Nat} (h : Shw d w k) (hw : w ≤ w') (hk : k ≤ k') : Shw d w' k' := ⟨h.sh, h.lf, Nat.le_trans h.wt hw, Nat.le_trans h.dp hk⟩
theorem Shw.fits {d : PyData} {w k : Nat} (h : Shw d w k) (hw : w ≤ 20000) : d.shown.length ≤ sizeLine := by
  have := PyData.shown_le 700 (by decide) d h.lf
  have := h.wt
  have e : sizeLine = 16777216 := by decide
  omega
def wgt : Nat → Nat
  | 0 => 0
  | n + 1 => 2 * wgt n + 60
theorem wgt_mono : ∀ {m n : Nat}, m ≤ n → wgt m ≤ wgt n
  | 0, _, _ => Nat.zero_le _
  | m + 1, 0, h => absurd h (by omega)
  | m + 1, n + 1, h => by
    have := wgt_mono (m := m) (n := n) (by omega)
    show 2 * wgt m + 60 ≤ 2 * wgt n + 60
    omega
theorem shw_ex {many : Nat} (hm : many ≤ 1000) : ∀ {e : Ex}, ExOk many e → Shw (toD e) (wgt e.dep) e.dep
  | .fig c, o => (ShwAll.tup (.cons (.str (by decide) (by decide)) (.cons (.small (by have := o.1; have := o.2; omega)) .nil (Nat.le_refl 0) (Nat.le_refl 0)) (Nat.le_refl 0) (Nat.le_refl 0))).mono (show _ ≤ wgt 1 by decide) (show 0 + 1 ≤ 1 by decide)
  | .reg i, o => by
    have o : i < 4 := o
    exact (ShwAll.tup (.cons (.str (by decide) (by decide)) (.cons (.small (by omega)) .nil (Nat.le_refl 0) (Nat.le_refl 0)) (Nat.le_refl 0) (Nat.le_refl 0))).mono (show _ ≤ wgt 1 by decide) (show 0 + 1 ≤ 1 by decide)
  | .share j, o => by
    have o : j < many := o
    exact (ShwAll.tup (.cons (.str (by decide) (by decide)) (.cons (.small (by omega)) .nil (Nat.le_refl 0) (Nat.le_refl 0)) (Nat.le_refl 0) (Nat.le_refl 0))).mono (show _ ≤ wgt 1 by decide) (show 0 + 1 ≤ 1 by decide)
  | .two w a b, o => by
    have ha := shw_ex hm (e := a) o.1
    have hb := shw_ex hm (e := b) o.2
    have hw : Shw (.str (wn w)) 10 0 := by cases w <;> exact .str (by decide) (by decide)
    have h1 := wgt_mono (Nat.le_max_left a.dep b.dep)
    have h2 := wgt_mono (Nat.le_max_right a.dep b.dep)
    refine (ShwAll.tup (.cons hw (.cons ha (.cons hb .nil (Nat.le_refl _) (Nat.zero_le _)) (Nat.le_max_left a.dep b.dep) (Nat.le_max_right a.dep b.dep)) (Nat.zero_le _) (Nat.le_refl _))).mono ?_ (Nat.le_refl _)
    show 10 + 1 + (wgt a.dep + 1 + (wgt b.dep + 1 + 0)) ≤ 2 * wgt (max a.dep b.dep) + 60
    omega
  | .times f a, o => by
    have ha := shw_ex hm (e := a) o.2
    refine (ShwAll.tup (.cons (.str (by decide) (by decide)) (.cons (.small (by have := o.1; omega)) (.cons ha .nil (Nat.le_refl _) (Nat.zero_le _)) (Nat.zero_le _) (Nat.le_refl _)) (Nat.zero_le _) (Nat.le_refl _))).mono ?_ (Nat.le_refl _)
    show 10 + 1 + (15 + 1 + (wgt a.dep + 1 + 0)) ≤ 2 * wgt a.dep + 60
    omega
  | .by i a, o => by
    have ha := shw_ex hm (e := a) o.2
    refine (ShwAll.tup (.cons (.str (by decide) (by decide)) (.cons (.small (by have := o.1; omega)) (.cons ha .nil (Nat.le_refl _) (Nat.zero_le _)) (Nat.zero_le _) (Nat.le_refl _)) (Nat.zero_le _) (Nat.le_refl _))).mono ?_ (Nat.le_refl _)
    show 10 + 1 + (15 + 1 + (wgt a.dep + 1 + 0)) ≤ 2 * wgt a.dep + 60
    omega
  | .when i c a b, o => by
    have ha := shw_ex hm (e := a) o.2.2.1
    have hb := shw_ex hm (e := b) o.2.2.2
    have h1 := wgt_mono (Nat.le_max_left a.dep b.dep)
    have h2 := wgt_mono (Nat.le_max_right a.dep b.dep)
    refine (ShwAll.tup (.cons (.str (by decide) (by decide)) (.cons (.small (by have := o.1; omega)) (.cons (.small (by have := o.2.1; omega)) (.cons ha (.cons hb .nil (Nat.le_refl _) (Nat.zero_le _)) (Nat.le_max_left a.dep b.dep) (Nat.le_max_right a.dep b.dep)) (Nat.zero_le _) (Nat.le_refl _)) (Nat.zero_le _) (Nat.le_refl _)) (Nat.zero_le _) (Nat.le_refl _))).mono ?_ (Nat.le_refl _)
    show 10 + 1 + (15 + 1 + (15 + 1 + (wgt a.dep + 1 + (wgt b.dep + 1 + 0)))) ≤ 2 * wgt (max a.dep b.dep) + 60
    omega
  | .whr i c a b, o => by
    have ha := shw_ex hm (e := a) o.2.2.1
    have hb := shw_ex hm (e := b) o.2.2.2
    have h1 := wgt_mono (Nat.le_max_left a.dep b.dep)
    have h2 := wgt_mono (Nat.le_max_right a.dep b.dep)
    refine (ShwAll.tup (.cons (.str (by decide) (by decide)) (.cons (.small (by have := o.1; omega)) (.cons (.small (by have := o.2.1; omega)) (.cons ha (.cons hb .nil (Nat.le_refl _) (Nat.zero_le _)) (Nat.le_max_left a.dep b.dep) (Nat.le_max_right a.dep b.dep)) (Nat.zero_le _) (Nat.le_refl _)) (Nat.zero_le _) (Nat.le_refl _)) (Nat.zero_le _) (Nat.le_refl _))).mono ?_ (Nat.le_refl _)
    show 10 + 1 + (15 + 1 + (15 + 1 + (wgt a.dep + 1 + (wgt b.dep + 1 + 0)))) ≤ 2 * wgt (max a.dep b.dep) + 60
    omega
/-- numbers of spans and worths stay below 2 ^ 600 -/
theorem spn_bnd : ∀ {many : Nat} {e : Ex}, ExOk many e → (spn e).1.natAbs ≤ 1000 * 2000 ^ e.dep ∧ (spn e).2.natAbs ≤ 1000 * 2000 ^ e.dep := by
  intro many e
  have up : ∀ {m n : Nat}, m ≤ n → 1000 * 2000 ^ m ≤ 1000 * 2000 ^ n := fun h => Nat.mul_le_mul_left _ (Nat.pow_le_pow_right (by decide) h)
  have nx : ∀ n : Nat, 1000 * 2000 ^ (n + 1) = 2000 * (1000 * 2000 ^ n) := fun n => by rw [Nat.pow_succ]; omega
  induction e with
  | fig c =>
    intro o
    have := o.1
    have := o.2
    show c.natAbs ≤ 1000 * 2000 ^ 1 ∧ c.natAbs ≤ 1000 * 2000 ^ 1
    omega
  | reg i =>
    intro o
    show (-1000 : Int).natAbs ≤ 1000 * 2000 ^ 1 ∧ (1000 : Int).natAbs ≤ 1000 * 2000 ^ 1
    decide
  | share j =>
    intro o
    show (0 : Int).natAbs ≤ 1000 * 2000 ^ 1 ∧ (1000 : Int).natAbs ≤ 1000 * 2000 ^ 1
    decide
  | two w a b iha ihb =>
    intro o
    have ha := iha o.1
    have hb := ihb o.2
    have h1 := up (Nat.le_max_left a.dep b.dep)
    have h2 := up (Nat.le_max_right a.dep b.dep)
    show (js w (spn a) (spn b)).1.natAbs ≤ 1000 * 2000 ^ (max a.dep b.dep + 1) ∧ (js w (spn a) (spn b)).2.natAbs ≤ 1000 * 2000 ^ (max a.dep b.dep + 1)
    rw [nx]
    cases w with
    | sum => simp only [js]; omega
    | less => simp only [js]; omega
    | least => simp only [js, mn]; split <;> split <;> omega
    | most => simp only [js, mx]; split <;> split <;> omega
  | times f a ih =>
    intro o
    have ha := ih o.2
    have hf : f.natAbs ≤ 9 := by have := o.1; omega
    have m1 : (f * (spn a).1).natAbs ≤ 9 * (1000 * 2000 ^ a.dep) := by rw [Int.natAbs_mul]; exact Nat.mul_le_mul hf ha.1
    have m2 : (f * (spn a).2).natAbs ≤ 9 * (1000 * 2000 ^ a.dep) := by rw [Int.natAbs_mul]; exact Nat.mul_le_mul hf ha.2
    show (mn _ _).natAbs ≤ 1000 * 2000 ^ (a.dep + 1) ∧ (mx _ _).natAbs ≤ 1000 * 2000 ^ (a.dep + 1)
    rw [nx]
    unfold mn mx
    split <;> split <;> omega
  | «by» i a ih =>
    intro o
    have ha := ih o.2
    have m1 : (mx (ab (spn a).1) (ab (spn a).2)).natAbs ≤ 1000 * 2000 ^ a.dep := by
      unfold mx ab
      repeat' split
      all_goals omega
    show (-1000 * mx _ _).natAbs ≤ 1000 * 2000 ^ (a.dep + 1) ∧ (1000 * mx _ _).natAbs ≤ 1000 * 2000 ^ (a.dep + 1)
    rw [nx]
    omega
  | when i c a b iha ihb =>
    intro o
    have ha := iha o.2.2.1
    have hb := ihb o.2.2.2
    have h1 := up (Nat.le_max_left a.dep b.dep)
    have h2 := up (Nat.le_max_right a.dep b.dep)
    show (mn _ _).natAbs ≤ 1000 * 2000 ^ (max a.dep b.dep + 1) ∧ (mx _ _).natAbs ≤ 1000 * 2000 ^ (max a.dep b.dep + 1)
    rw [nx]
    unfold mn mx
    split <;> split <;> omega
  | whr i c a b iha ihb =>
    intro o
    have ha := iha o.2.2.1
    have hb := ihb o.2.2.2
    have h1 := up (Nat.le_max_left a.dep b.dep)
    have h2 := up (Nat.le_max_right a.dep b.dep)
    show (mn _ _).natAbs ≤ 1000 * 2000 ^ (max a.dep b.dep + 1) ∧ (mx _ _).natAbs ≤ 1000 * 2000 ^ (max a.dep b.dep + 1)
    rw [nx]
    unfold mn mx
    split <;> split <;> omega
theorem bnd_600 {d : Nat} {x : Int} (hd : d ≤ 10) (h : x.natAbs ≤ 1000 * 2000 ^ d) : x.natAbs < 2 ^ 300 := by
  have h1 : 1000 * 2000 ^ d ≤ 1000 * 2000 ^ 10 := Nat.mul_le_mul_left _ (Nat.pow_le_pow_right (by decide) hd)
  have h2 : (1000 * 2000 ^ 10 : Nat) < 2 ^ 300 := by decide
  omega
end NG

namespace NG
open PySem PySem.Spec PyProof.Rows L2

/-! ### leaves and borders -/
def lvs : Ex → Int
  | .fig _ => 1
  | .reg _ => 1
  | .share _ => 1
  | .two .sum a b => lvs a * lvs b
  | .two .less a b => lvs a * lvs b
  | .two .least a b => lvs a + lvs b
  | .two .most a b => lvs a + lvs b
  | .times _ a => lvs a
  | .by _ a => lvs a
  | .when _ _ a b => mx (lvs a) (lvs b)
  | .whr _ _ a b => lvs a + lvs b
def bds : Ex → Int
  | .fig _ => 0
  | .reg _ => 0
  | .share _ => 0
  | .two .sum a b => bds a + bds b
  | .two .less a b => bds a + bds b
  | .two .least a b => bds a + bds b + lvs a * lvs b
  | .two .most a b => bds a + bds b + lvs a * lvs b
  | .times _ a => bds a
  | .by _ a => bds a
  | .when _ _ a b => mx (bds a) (bds b)
  | .whr _ _ a b => bds a + bds b + 1
def bnd : Nat → Nat
  | 0 => 1
  | n + 1 => bnd n * bnd n + 2 * bnd n
theorem bnd_pos : ∀ n, 1 ≤ bnd n
  | 0 => Nat.le_refl _
  | n + 1 => by
    have := bnd_pos n
    show 1 ≤ bnd n * bnd n + 2 * bnd n
    omega
theorem bnd_up : ∀ {m n : Nat}, m ≤ n → bnd m ≤ bnd n := by
  intro m n h
  induction h with
  | refl => exact Nat.le_refl _
  | step _ ih =>
    refine Nat.le_trans ih ?_
    show _ ≤ bnd _ * bnd _ + 2 * bnd _
    omega
theorem lb_bnd : ∀ e : Ex, (lvs e).natAbs ≤ bnd e.dep ∧ (bds e).natAbs ≤ bnd e.dep := by
  intro e
  have pm : ∀ {x y : Int} {B : Nat}, x.natAbs ≤ B → y.natAbs ≤ B → (x * y).natAbs ≤ B * B := fun hx hy => by rw [Int.natAbs_mul]; exact Nat.mul_le_mul hx hy
  induction e with
  | fig c => exact ⟨by show 1 ≤ bnd 1; exact bnd_pos 1, Nat.zero_le _⟩
  | reg c => exact ⟨by show 1 ≤ bnd 1; exact bnd_pos 1, Nat.zero_le _⟩
  | share c => exact ⟨by show 1 ≤ bnd 1; exact bnd_pos 1, Nat.zero_le _⟩
  | two w a b iha ihb =>
    have h1 := bnd_up (Nat.le_max_left a.dep b.dep)
    have h2 := bnd_up (Nat.le_max_right a.dep b.dep)
    have hm := pm (Nat.le_trans iha.1 h1) (Nat.le_trans ihb.1 h2)
    show (lvs (.two w a b)).natAbs ≤ bnd (max a.dep b.dep) * bnd (max a.dep b.dep) + 2 * bnd (max a.dep b.dep) ∧ (bds (.two w a b)).natAbs ≤ bnd (max a.dep b.dep) * bnd (max a.dep b.dep) + 2 * bnd (max a.dep b.dep)
    cases w <;> simp only [lvs, bds] <;> omega
  | times f a ih =>
    show (lvs a).natAbs ≤ bnd a.dep * bnd a.dep + 2 * bnd a.dep ∧ (bds a).natAbs ≤ bnd a.dep * bnd a.dep + 2 * bnd a.dep
    omega
  | «by» i a ih =>
    show (lvs a).natAbs ≤ bnd a.dep * bnd a.dep + 2 * bnd a.dep ∧ (bds a).natAbs ≤ bnd a.dep * bnd a.dep + 2 * bnd a.dep
    omega
  | when i c a b iha ihb =>
    have h1 := bnd_up (Nat.le_max_left a.dep b.dep)
    have h2 := bnd_up (Nat.le_max_right a.dep b.dep)
    show (mx (lvs a) (lvs b)).natAbs ≤ bnd (max a.dep b.dep) * bnd (max a.dep b.dep) + 2 * bnd (max a.dep b.dep) ∧ (mx (bds a) (bds b)).natAbs ≤ bnd (max a.dep b.dep) * bnd (max a.dep b.dep) + 2 * bnd (max a.dep b.dep)
    unfold mx
    split <;> split <;> omega
  | whr i c a b iha ihb =>
    have h1 := bnd_up (Nat.le_max_left a.dep b.dep)
    have h2 := bnd_up (Nat.le_max_right a.dep b.dep)
    have h3 := bnd_pos (max a.dep b.dep)
    have h4 : bnd (max a.dep b.dep) ≤ bnd (max a.dep b.dep) * bnd (max a.dep b.dep) := Nat.le_mul_of_pos_left _ h3
    show (lvs a + lvs b).natAbs ≤ bnd (max a.dep b.dep) * bnd (max a.dep b.dep) + 2 * bnd (max a.dep b.dep) ∧ (bds a + bds b + 1).natAbs ≤ bnd (max a.dep b.dep) * bnd (max a.dep b.dep) + 2 * bnd (max a.dep b.dep)
    omega
theorem lvs_mul {e : Ex} {y : Int} (h : e.dep ≤ 5) : CMul (lvs e) y := by
  have h1 := (lb_bnd e).1
  have h2 := bnd_up h
  have h3 : bnd 5 < 2 ^ 64 := by decide
  exact .inl ⟨by omega, by omega⟩
theorem lb_600 {e : Ex} (h : e.dep ≤ 6) : (lvs e).natAbs < 2 ^ 600 ∧ (bds e).natAbs < 2 ^ 600 := by
  have h1 := lb_bnd e
  have h2 := bnd_up h
  have h3 : bnd 6 < 2 ^ 600 := by decide
  omega
def spCnt (K : PySem.W.Frag) (f : Ex → Int) (n : Nat) : Sp := fun vs H Q _ => ∃ (v : V) (e : Ex) (many : Nat), vs = [v] ∧ ExAt K H e v ∧ ExOk many e ∧ e.dep ≤ n ∧ e.dep ≤ 6 ∧ ∀ H', Same H H' → Q (.int (f e)) H'
def spLB (K : PySem.W.Frag) (n : Nat) : Sp := fun vs H Q _ => ∃ (v : V) (e : Ex) (many : Nat), vs = [v] ∧ ExAt K H e v ∧ ExOk many e ∧ e.dep ≤ n ∧ e.dep ≤ 6 ∧ ∀ H' u, Same H H' → SpAt K H' (lvs e, bds e) u → Q u H'

/-! ### the law's own reading -/
def Ex.rest : Ex → List Itm
  | .fig c => [.i c]
  | .reg i => [.i (i : Int)]
  | .share j => [.i (j : Int)]
  | .two _ a b => [.k a, .k b]
  | .times f a => [.i f, .k a]
  | .by i a => [.i (i : Int), .k a]
  | .when i c a b => [.i (i : Int), .i c, .k a, .k b]
  | .whr j c a b => [.i (j : Int), .i c, .k a, .k b]
theorem kidsI_rest (e : Ex) : kidsI e.rest = e.kids := by cases e <;> rfl
theorem rest_len (e : Ex) : e.rest.length ≤ 4 := by cases e <;> simp [Ex.rest]
theorem ItsAt.imp {K : PySem.W.Frag} {H H' : Hp} (sm : Same H H') : ∀ {vs : List V} {ts : List Itm}, ItsAt K H vs ts → ItsAt K H' vs ts
  | [], [], _ => trivial
  | _ :: _, .s _ :: _, ⟨x, r⟩ => ⟨x, r.imp sm⟩
  | _ :: _, .i _ :: _, ⟨x, r⟩ => ⟨x, r.imp sm⟩
  | _ :: _, .k e :: _, ⟨x, r⟩ => ⟨ExAt.same (e := e) x sm, r.imp sm⟩
theorem ExAt.rst {K : PySem.W.Frag} {H : Hp} : ∀ {e : Ex} {v : V}, ExAt K H e v → ∃ p xs, v = .ref p ∧ SqT K H p (.str (wordOf e) :: xs) ∧ 0 < xs.length ∧ ItsAt K H xs e.rest
  | .fig _, _, ⟨p, e, q⟩ => ⟨p, _, e, q, by simp, rfl, trivial⟩
  | .reg _, _, ⟨p, e, q⟩ => ⟨p, _, e, q, by simp, rfl, trivial⟩
  | .share _, _, ⟨p, e, q⟩ => ⟨p, _, e, q, by simp, rfl, trivial⟩
  | .two _ _ _, _, ⟨p, x, y, e, q, a, b⟩ => ⟨p, _, e, q, by simp, a, b, trivial⟩
  | .times _ _, _, ⟨p, x, e, q, a⟩ => ⟨p, _, e, q, by simp, rfl, a, trivial⟩
  | .by _ _, _, ⟨p, x, e, q, a⟩ => ⟨p, _, e, q, by simp, rfl, a, trivial⟩
  | .when _ _ _ _, _, ⟨p, x, y, e, q, a, b⟩ => ⟨p, _, e, q, by simp, rfl, rfl, a, b, trivial⟩
  | .whr _ _ _ _, _, ⟨p, x, y, e, q, a, b⟩ => ⟨p, _, e, q, by simp, rfl, rfl, a, b, trivial⟩
theorem cut1 {x : V} {xs : List V} : cutV (x :: xs) (some 1) none = xs := by
  unfold cutV
  rw [show HT.sIx (x :: xs).length 0 (some 1) = min 1 (x :: xs).length from HT.sIx_nat _ 0 1, HT.sIx_none, List.length_cons, show min 1 (xs.length + 1) = 1 by omega]
  show List.take (xs.length + 1 - 1) xs = xs
  rw [Nat.add_sub_cancel, List.take_length]
theorem cut1w {x : V} {xs : List V} (h : 0 < xs.length) : ¬ (HT.sIx (x :: xs).length 0 (some 1) = 0 ∧ HT.sIx (x :: xs).length (x :: xs).length none = (x :: xs).length) := by
  rw [show HT.sIx (x :: xs).length 0 (some 1) = min 1 (x :: xs).length from HT.sIx_nat _ 0 1, List.length_cons]
  omega
theorem kidsI_snoc {ts : List Itm} {i : Nat} {t : Itm} (h : ts[i]? = some t) : kidsI (ts.take (i + 1)) = kidsI (ts.take i) ++ kidsI [t] := by
  rw [List.take_add_one, h, kidsI_append]
  rfl
theorem mem_kidsI {e : Ex} : ∀ {ts : List Itm}, Itm.k e ∈ ts → e ∈ kidsI ts
  | .k e' :: r, h => by
    rcases List.mem_cons.mp h with h | h
    · cases h
      exact List.mem_cons_self
    · exact List.mem_cons_of_mem _ (mem_kidsI h)
  | .s _ :: r, h => by
    rcases List.mem_cons.mp h with h | h
    · cases h
    · exact mem_kidsI (ts := r) h
  | .i _ :: r, h => by
    rcases List.mem_cons.mp h with h | h
    · cases h
    · exact mem_kidsI (ts := r) h
theorem sort2 {ns : List Int} {a b : Int} (hp : ns.Perm [a, b]) (hs : ns.Pairwise (· ≤ ·)) : ns = [mn a b, mx a b] := by
  have hl := hp.length_eq
  match ns, hl with
  | [x, y], _ =>
    have hxy : x ≤ y := by simpa using hs
    have h1 : x = a ∨ x = b := by simpa using hp.mem_iff (a := x)
    have h2 : y = a ∨ y = b := by simpa using hp.mem_iff (a := y)
    have h3 : a = x ∨ a = y := by simpa using (hp.mem_iff (a := a)).mpr (by simp)
    have h4 : b = x ∨ b = y := by simpa using (hp.mem_iff (a := b)).mpr (by simp)
    have e1 : x = mn a b := by unfold mn; split <;> omega
    have e2 : y = mx a b := by unfold mx; split <;> omega
    rw [e1, e2]
theorem far_eq {lo hi : Int} (h : lo ≤ hi) : (if (0 - lo) > hi then (0 - lo) else hi) = mx (ab lo) (ab hi) := by
  unfold mx ab
  repeat' split
  all_goals omega
end NG

namespace NG
open PySem PySem.Spec PyProof.Rows L2
/-! ### rows of expressions as data -/
theorem lay_ex : ∀ e : Ex, (toD e).canLay0 = true
  | .fig _ => by
    show (PyData.canLay0 (.str "fig") && (true && true)) = true
    decide +kernel
  | .reg _ => by
    show (PyData.canLay0 (.str "reg") && (true && true)) = true
    decide +kernel
  | .share _ => by
    show (PyData.canLay0 (.str "share") && (true && true)) = true
    decide +kernel
  | .two w a b => by
    have ha := lay_ex a
    have hb := lay_ex b
    show (PyData.canLay0 (.str (wn w)) && (PyData.canLay0 (toD a) && (PyData.canLay0 (toD b) && true))) = true
    rw [ha, hb]
    cases w <;> decide +kernel
  | .times _ a => by
    have ha := lay_ex a
    show (PyData.canLay0 (.str "times") && (true && (PyData.canLay0 (toD a) && true))) = true
    rw [ha]
    decide +kernel
  | .by _ a => by
    have ha := lay_ex a
    show (PyData.canLay0 (.str "by") && (true && (PyData.canLay0 (toD a) && true))) = true
    rw [ha]
    decide +kernel
  | .when _ _ a b => by
    have ha := lay_ex a
    have hb := lay_ex b
    show (PyData.canLay0 (.str "when") && (true && (true && (PyData.canLay0 (toD a) && (PyData.canLay0 (toD b) && true))))) = true
    rw [ha, hb]
    decide +kernel
  | .whr _ _ a b => by
    have ha := lay_ex a
    have hb := lay_ex b
    show (PyData.canLay0 (.str "where") && (true && (true && (PyData.canLay0 (toD a) && (PyData.canLay0 (toD b) && true))))) = true
    rw [ha, hb]
    decide +kernel
theorem depth_ex : ∀ e : Ex, (toD e).depth ≤ e.dep
  | .fig _ => Nat.le_refl _
  | .reg _ => Nat.le_refl _
  | .share _ => Nat.le_refl _
  | .two w a b => by
    have ha := depth_ex a
    have hb := depth_ex b
    show max 0 (max (toD a).depth (max (toD b).depth 0)) + 1 ≤ max a.dep b.dep + 1
    omega
  | .times _ a => by
    have ha := depth_ex a
    show max 0 (max 0 (max (toD a).depth 0)) + 1 ≤ a.dep + 1
    omega
  | .by _ a => by
    have ha := depth_ex a
    show max 0 (max 0 (max (toD a).depth 0)) + 1 ≤ a.dep + 1
    omega
  | .when _ _ a b => by
    have ha := depth_ex a
    have hb := depth_ex b
    show max 0 (max 0 (max 0 (max (toD a).depth (max (toD b).depth 0)))) + 1 ≤ max a.dep b.dep + 1
    omega
  | .whr _ _ a b => by
    have ha := depth_ex a
    have hb := depth_ex b
    show max 0 (max 0 (max 0 (max (toD a).depth (max (toD b).depth 0)))) + 1 ≤ max a.dep b.dep + 1
    omega
theorem shaped_rows {es : List Ex} (h : ∀ e ∈ es, e.dep ≤ 40) : SeqAt.shaped (.list (es.map toD)) = true := by
  have h1 : PyData.canLayAll0 (es.map toD) = true := by
    clear h
    induction es with
    | nil => rfl
    | cons e r ih =>
      show ((toD e).canLay0 && PyData.canLayAll0 (r.map toD)) = true
      rw [lay_ex e, ih]
      rfl
  have h2 : PyData.depthAll (es.map toD) ≤ 40 := by
    clear h1
    induction es with
    | nil => exact Nat.zero_le _
    | cons e r ih =>
      have a := depth_ex e
      have b := h e (by simp)
      have c := ih fun x hx => h x (List.mem_cons_of_mem _ hx)
      show max (toD e).depth (PyData.depthAll (r.map toD)) ≤ 40
      omega
  show (PyData.canLayAll0 (es.map toD) && decide (PyData.depthAll (es.map toD) + 1 ≤ 64)) = true
  rw [h1, decide_eq_true (by omega)]
  rfl
theorem RowsAt.dps {K : PySem.W.Frag} {H : Hp} : ∀ {vs : List V} {es : List Ex}, RowsAt K H vs es → DpAll K H vs (es.map toD)
  | [], [], _ => .nil
  | _ :: _, _ :: _, ⟨x, r⟩ => .cons x.dp r.dps
theorem RowsAt.append {K : PySem.W.Frag} {H : Hp} : ∀ {vs ws : List V} {es fs : List Ex}, RowsAt K H vs es → RowsAt K H ws fs → RowsAt K H (vs ++ ws) (es ++ fs)
  | [], _, [], _, _, r => r
  | _ :: _, _, _ :: _, _, ⟨x, q⟩, r => ⟨x, q.append r⟩
theorem RowsAt.mem {K : PySem.W.Frag} {H : Hp} : ∀ {vs : List V} {es : List Ex} {v : V}, RowsAt K H vs es → v ∈ vs → ∃ e ∈ es, ExAt K H e v
  | v' :: vs, e :: es, v, ⟨x, r⟩, h => by
    rcases List.mem_cons.mp h with h | h
    · subst h
      exact ⟨e, by simp, x⟩
    · obtain ⟨e', h1, h2⟩ := r.mem h
      exact ⟨e', List.mem_cons_of_mem _ h1, h2⟩
/-! ### slices of lists -/
theorem cut_take {xs : List V} {j : Nat} : cutV xs none (some (j : Int)) = xs.take j := by
  unfold cutV
  rw [HT.sIx_none, HT.sIx_nat, List.drop_zero, Nat.sub_zero]
  by_cases h : j ≤ xs.length
  · rw [Nat.min_eq_left h]
  · rw [Nat.min_eq_right (by omega), List.take_length, List.take_of_length_le (by omega)]
theorem cut_drop {xs : List V} {j : Nat} : cutV xs (some (j : Int)) none = xs.drop j := by
  unfold cutV
  rw [HT.sIx_none, HT.sIx_nat]
  by_cases h : j ≤ xs.length
  · rw [Nat.min_eq_left h, List.take_of_length_le (by rw [List.length_drop]; exact Nat.le_refl _)]
  · rw [Nat.min_eq_right (by omega), Nat.sub_self, List.take_zero, List.drop_of_length_le (by omega)]
/-! ### words within -/
def spWords (K : PySem.W.Frag) (n : Nat) : Sp := fun vs H Q _ => ∃ (v : V) (x : Str) (e : Ex) (many : Nat), vs = [v, .str x] ∧ ExAt K H e v ∧ ExOk many e ∧ e.dep ≤ n ∧ e.dep ≤ 6 ∧
  ∀ H' l us es, Same H H' → H l = none → H' l = some (.lst us) → RowsAt K H' us es → es.length ≤ 3 ^ n → (∀ e' ∈ es, ExOk many e' ∧ wordOf e' = x ∧ e'.dep ≤ e.dep) → Q (.ref l) H'
def spBorder (K : PySem.W.Frag) : Sp := fun vs H Q _ => ∃ (a : Addr) (v : V) (e : Ex) (many n : Nat), vs = [.ref a, v, .int (many : Int)] ∧ ExAt K H e v ∧ ExOk many e ∧ e.dep ≤ 5 ∧ 2 ≤ many ∧ many ≤ 3 ∧ HandAt H a n ∧ n ≤ 999997000 ∧
  ∀ H' u ms, But a H H' → HandAt H' a (n + 20) → ShAt K H' many ms u → Q u H'
def spNear (K : PySem.W.Frag) : Sp := fun vs H Q _ => ∃ (a : Addr) (v : V) (e : Ex) (many n : Nat), vs = [.ref a, v] ∧ ExAt K H e v ∧ ExOk many e ∧ e.dep ≤ 5 ∧ HandAt H a n ∧ n ≤ 999997000 ∧
  ∀ H' u rs, But a H H' → HandAt H' a (n + 15) → RegsAt K H' rs u → Q u H'
theorem is_whr {e : Ex} (h : wordOf e = "where") : ∃ j c a b, e = .whr j c a b := by
  cases e with
  | whr j c a b => exact ⟨j, c, a, b, rfl⟩
  | two w a b => cases w <;> exact absurd h (of_decide_eq_false rfl)
  | fig _ => exact absurd h (of_decide_eq_false rfl)
  | reg _ => exact absurd h (of_decide_eq_false rfl)
  | share _ => exact absurd h (of_decide_eq_false rfl)
  | times _ _ => exact absurd h (of_decide_eq_false rfl)
  | «by» _ _ => exact absurd h (of_decide_eq_false rfl)
  | when _ _ _ _ => exact absurd h (of_decide_eq_false rfl)
theorem is_when {e : Ex} (h : wordOf e = "when") : ∃ j c a b, e = .when j c a b := by
  cases e with
  | when j c a b => exact ⟨j, c, a, b, rfl⟩
  | two w a b => cases w <;> exact absurd h (of_decide_eq_false rfl)
  | fig _ => exact absurd h (of_decide_eq_false rfl)
  | reg _ => exact absurd h (of_decide_eq_false rfl)
  | share _ => exact absurd h (of_decide_eq_false rfl)
  | times _ _ => exact absurd h (of_decide_eq_false rfl)
  | «by» _ _ => exact absurd h (of_decide_eq_false rfl)
  | whr _ _ _ _ => exact absurd h (of_decide_eq_false rfl)
end NG

namespace NG
open PySem PySem.Spec PyProof.Rows L2
def topS (i : Nat) : Stmt := PySem.Challenge.pw_nonegrowsrich_k05_worths_thing_by_thing.main.body.getD i (.Pass ⟨0, 0, 0, 0⟩)
abbrev s_led_part : Stmt := topS 1
abbrev N_led_part : List Str := ["expression", "registers", "word", "place", "figure", "first", "second"]
theorem sc_led_part : FnScope ["expression", "registers", "word", "place", "figure", "first", "second"] ["expression", "registers"] (defScope s_led_part) := ⟨rfl, rfl, rfl, by decide +kernel, rfl, by decide +kernel, by decide +kernel⟩
abbrev s_side_part : Stmt := topS 2
abbrev N_side_part : List Str := ["expression", "shares", "word", "sign", "line", "first", "second"]
theorem sc_side_part : FnScope ["expression", "shares", "word", "sign", "line", "first", "second"] ["expression", "shares"] (defScope s_side_part) := ⟨rfl, rfl, rfl, by decide +kernel, rfl, by decide +kernel, by decide +kernel⟩
abbrev s_join_worths : Stmt := topS 3
abbrev N_join_worths : List Str := ["word", "first", "second"]
theorem sc_join_worths : FnScope ["word", "first", "second"] ["word", "first", "second"] (defScope s_join_worths) := ⟨rfl, rfl, rfl, by decide +kernel, rfl, by decide +kernel, by decide +kernel⟩
abbrev s_worth : Stmt := topS 4
abbrev N_worth : List Str := ["expression", "registers", "shares", "word", "first", "second"]
theorem sc_worth : FnScope ["expression", "registers", "shares", "word", "first", "second"] ["expression", "registers", "shares"] (defScope s_worth) := ⟨rfl, rfl, rfl, by decide +kernel, rfl, by decide +kernel, by decide +kernel⟩
abbrev s_L_hand : Stmt := topS 6
abbrev N_L_hand : List Str := ["_law_script", "_law_k", "_law_cell", "_law_great"]
theorem sc_L_hand : FnScope ["_law_script", "_law_k", "_law_cell", "_law_great"] ["_law_script", "_law_k"] (defScope s_L_hand) := ⟨rfl, rfl, rfl, by decide +kernel, rfl, by decide +kernel, by decide +kernel⟩
abbrev s_L_take : Stmt := topS 7
abbrev N_L_take : List Str := ["_law_hand_here", "_law_many", "_law_digit", "_law_primes", "_law_prime", "_law_drawn"]
theorem sc_L_take : FnScope ["_law_hand_here", "_law_many", "_law_digit", "_law_primes", "_law_prime", "_law_drawn"] ["_law_hand_here", "_law_many"] (defScope s_L_take) := ⟨rfl, rfl, rfl, by decide +kernel, rfl, by decide +kernel, by decide +kernel⟩
abbrev s_L_of : Stmt := topS 8
abbrev N_L_of : List Str := ["_law_hand_here", "_law_some"]
theorem sc_L_of : FnScope ["_law_hand_here", "_law_some"] ["_law_hand_here", "_law_some"] (defScope s_L_of) := ⟨rfl, rfl, rfl, by decide +kernel, rfl, by decide +kernel, by decide +kernel⟩
abbrev s_L_figure : Stmt := topS 9
abbrev N_L_figure : List Str := ["_law_hand_here", "_law_some"]
theorem sc_L_figure : FnScope ["_law_hand_here", "_law_some"] ["_law_hand_here"] (defScope s_L_figure) := ⟨rfl, rfl, rfl, by decide +kernel, rfl, by decide +kernel, by decide +kernel⟩
abbrev s_L_leaf : Stmt := topS 10
abbrev N_L_leaf : List Str := ["_law_hand_here", "_law_many", "_law_sort"]
theorem sc_L_leaf : FnScope ["_law_hand_here", "_law_many", "_law_sort"] ["_law_hand_here", "_law_many"] (defScope s_L_leaf) := ⟨rfl, rfl, rfl, by decide +kernel, rfl, by decide +kernel, by decide +kernel⟩
abbrev s_L_expression : Stmt := topS 11
abbrev N_L_expression : List Str := ["_law_hand_here", "_law_many", "_law_level", "_law_jumps", "_law_words", "_law_word", "_law_one", "_law_other", "_law_figure_here"]
theorem sc_L_expression : FnScope ["_law_hand_here", "_law_many", "_law_level", "_law_jumps", "_law_words", "_law_word", "_law_one", "_law_other", "_law_figure_here"] ["_law_hand_here", "_law_many", "_law_level", "_law_jumps"] (defScope s_L_expression) := ⟨rfl, rfl, rfl, by decide +kernel, rfl, by decide +kernel, by decide +kernel⟩
abbrev s_L_lowest : Stmt := topS 12
abbrev N_L_lowest : List Str := ["_law_row", "_law_by", "_law_number"]
theorem sc_L_lowest : FnScope ["_law_row", "_law_by", "_law_number"] ["_law_row"] (defScope s_L_lowest) := ⟨rfl, rfl, rfl, by decide +kernel, rfl, by decide +kernel, by decide +kernel⟩
abbrev s_L_shares : Stmt := topS 13
abbrev N_L_shares : List Str := ["_law_hand_here", "_law_many", "_law_row", "_law_sign", "_law_some"]
theorem sc_L_shares : FnScope ["_law_hand_here", "_law_many", "_law_row", "_law_sign", "_law_some"] ["_law_hand_here", "_law_many"] (defScope s_L_shares) := ⟨rfl, rfl, rfl, by decide +kernel, rfl, by decide +kernel, by decide +kernel⟩
abbrev s_L_registers : Stmt := topS 14
abbrev N_L_registers : List Str := ["_law_hand_here", "_law_turn"]
theorem sc_L_registers : FnScope ["_law_hand_here", "_law_turn"] ["_law_hand_here"] (defScope s_L_registers) := ⟨rfl, rfl, rfl, by decide +kernel, rfl, by decide +kernel, by decide +kernel⟩
abbrev s_L_worth : Stmt := topS 15
abbrev N_L_worth : List Str := ["_law_tree", "_law_regs", "_law_odds", "_law_word", "_law_total", "_law_parts", "_law_part"]
theorem sc_L_worth : FnScope ["_law_tree", "_law_regs", "_law_odds", "_law_word", "_law_total", "_law_parts", "_law_part"] ["_law_tree", "_law_regs", "_law_odds"] (defScope s_L_worth) := ⟨rfl, rfl, rfl, by decide +kernel, rfl, by decide +kernel, by decide +kernel⟩
abbrev s_L_words_in : Stmt := topS 16
abbrev N_L_words_in : List Str := ["_law_tree", "_law_word", "_law_found", "_law_part"]
theorem sc_L_words_in : FnScope ["_law_tree", "_law_word", "_law_found", "_law_part"] ["_law_tree", "_law_word"] (defScope s_L_words_in) := ⟨rfl, rfl, rfl, by decide +kernel, rfl, by decide +kernel, by decide +kernel⟩
abbrev s_L_at_border : Stmt := topS 17
abbrev N_L_at_border : List Str := ["_law_hand_here", "_law_tree", "_law_many", "_law_some", "_law_word", "_law_sign", "_law_thousandth", "_law_rest", "_law_other", "_law_row"]
theorem sc_L_at_border : FnScope ["_law_hand_here", "_law_tree", "_law_many", "_law_some", "_law_word", "_law_sign", "_law_thousandth", "_law_rest", "_law_other", "_law_row"] ["_law_hand_here", "_law_tree", "_law_many"] (defScope s_L_at_border) := ⟨rfl, rfl, rfl, by decide +kernel, rfl, by decide +kernel, by decide +kernel⟩
abbrev s_L_near : Stmt := topS 18
abbrev N_L_near : List Str := ["_law_hand_here", "_law_tree", "_law_some", "_law_regs", "_law_word", "_law_at", "_law_figure_here"]
theorem sc_L_near : FnScope ["_law_hand_here", "_law_tree", "_law_some", "_law_regs", "_law_word", "_law_at", "_law_figure_here"] ["_law_hand_here", "_law_tree"] (defScope s_L_near) := ⟨rfl, rfl, rfl, by decide +kernel, rfl, by decide +kernel, by decide +kernel⟩
abbrev s_L_right : Stmt := topS 19
abbrev N_L_right : List Str := ["_law_asked", "_law_tree", "_law_regs", "_law_odds", "_law_as_was", "_law_due", "_law_told", "_law_named"]
theorem sc_L_right : FnScope ["_law_asked", "_law_tree", "_law_regs", "_law_odds", "_law_as_was", "_law_due", "_law_told", "_law_named"] ["_law_asked"] (defScope s_L_right) := ⟨rfl, rfl, rfl, by decide +kernel, rfl, by decide +kernel, by decide +kernel⟩
abbrev s_law : Stmt := topS 20
abbrev N_law : List Str := ["_law_script", "_law_k", "_law_hand_here", "_law_some", "_law_many", "_law_both", "_law_turn", "_law_tree", "_law_odds", "_law_asked"]
theorem sc_law : FnScope ["_law_script", "_law_k", "_law_hand_here", "_law_some", "_law_many", "_law_both", "_law_turn", "_law_tree", "_law_odds", "_law_asked"] ["_law_script"] (defScope s_law) := ⟨rfl, rfl, rfl, by decide +kernel, rfl, by decide +kernel, by decide +kernel⟩

end NG

namespace NG
open PySem PySem.Spec PyProof.Rows L2
section
variable {P : Program} {w : World} {K : PySem.W.Frag} {mg : Str → Option Value} {base : Heap}
theorem primes_at {m : Int} (h : 0 ≤ m) : ∃ p : Int, atI ([.int 2147483647, .int 2147483629, .int 2147483587, .int 2147483579, .int 2147483563, .int 2147483549, .int 2147483543, .int 2147483497] : List V) (m % 8) = some (.int p) ∧ 1000 < p ∧ p < 2147483648 := by
  have h1 : m % 8 = 0 ∨ m % 8 = 1 ∨ m % 8 = 2 ∨ m % 8 = 3 ∨ m % 8 = 4 ∨ m % 8 = 5 ∨ m % 8 = 6 ∨ m % 8 = 7 := by omega
  rcases h1 with e | e | e | e | e | e | e | e <;> rw [e] <;> exact ⟨_, rfl, by decide, by decide⟩
theorem ok_take {f : Addr} {fd : FuncData} (F : Fun K "_law_take" "_law_take" s_L_take f fd) (gF : mg "_law_take" = some (.ref f)) (b : Binds K fd ["_law_hand_here", "_law_many"] []) : Cal P w K mg base 1 "_law_take" spTake := by
  refine ⟨f, fd, _, F.ok sc_L_take (fun vs H Q E h => ?_) (fun cdv A outer s H vs Q E hr h => ?_), gF, F.kp, b⟩
  · obtain ⟨a, m, n, rfl, _⟩ := h
    rfl
  · obtain ⟨a, many, n, rfl, hm, hm2, ⟨g, sd, m, e, hg, hs, h0, hn⟩, hN, q⟩ := h
    refine ⟨_, (pss_cons (ps_if (pt_cmpR op_gt (pe_ix ix_list (pv 0) pe_int (fun _ _ => rfl)) pe_int (nomark _)) (pss_cons (ps_set (i := 2) sc_L_take.nd rfl (.inl rfl) (pe_op op_mod (pe_ix ix_list (pv 0) pe_int (fun _ _ => rfl)) (pv 1))) (pss_cons (ps_asg (pe_op op_fdivW (pe_ix ix_list (pv 0) pe_int (fun _ _ => rfl)) (pv 1)) (pg_sub (pv 0) pe_int set_list)) (pss_one (ps_ret (pv 2))))) pss_nil) (pss_cons (ps_asg (pe_op op_add (pe_ix ix_list (pv 0) pe_int (fun _ _ => rfl)) pe_int) (pg_sub (pv 0) pe_int set_list)) (pss_cons (ps_set (i := 3) sc_L_take.nd rfl (.inl rfl) (pe_lst (pa_cons pe_int (pa_cons pe_int (pa_cons pe_int (pa_cons pe_int (pa_cons pe_int (pa_cons pe_int (pa_cons pe_int (pa_cons pe_int pa_nil)))))))))) (pss_cons (ps_set (i := 4) sc_L_take.nd rfl (.inl rfl) (pe_ix ix_list (pv 3) (pe_op op_mod (pe_ix ix_list (pv 0) pe_int (fun _ _ => rfl)) pe_int) (fun _ _ => rfl))) (pss_cons (ps_set (i := 5) sc_L_take.nd rfl (.inl rfl) (pe_op op_add (pe_op op_mod (pe_op op_mod (pe_op op_add (pe_ix ix_list (pv 0) pe_int (fun _ _ => rfl)) (pe_op op_mul (pe_op op_mul pe_int (pe_ix ix_list (pv 0) pe_int (fun _ _ => rfl))) (pe_ix ix_list (pv 0) pe_int (fun _ _ => rfl)))) (pe_op op_pow (pv 4) pe_int)) (pv 4)) pe_int)) (pss_one (ps_ret (pe_op op_mod (pe_op op_fdiv (pe_op op_mod (pe_op op_mul (pv 5) (pe_op op_add (pe_op op_mod (pv 5) pe_int) (pe_ix ix_list (pv 0) pe_int (fun _ _ => rfl)))) (pv 4)) pe_int) (pv 1))))))))), ?_⟩
    refine ⟨.ref a, rfl, a, _, 0, .int g, rfl, rfl, SqL.of e, rfl, g, 0, rfl, rfl, _, rfl, iteD (fun c => ?_) (fun c => ?_)⟩
    · refine ⟨.ref a, rfl, a, _, 0, .int g, rfl, rfl, SqL.of e, rfl, .int many, rfl, g, many, rfl, rfl, hm, ?_⟩
      refine ⟨.ref a, rfl, a, _, 0, .int g, rfl, rfl, SqL.of e, rfl, .int many, rfl, g, many, rfl, rfl, wide_div (b := 62) hm (by omega) (by decide) (by decide), ?_⟩
      refine ⟨.ref a, rfl, a, _, 0, 0, rfl, rfl, e, rfl, ?_⟩
      refine ⟨.int (g % many), rfl, q _ _ But.put ?_ (Int.emod_nonneg _ (by omega)) (Int.emod_lt_of_pos _ hm)⟩
      exact ⟨g / many, sd, m, upd_same, Int.ediv_nonneg hg (by omega), hs, h0, by omega⟩
    · refine ⟨.ref a, rfl, a, _, 2, .int m, rfl, rfl, SqL.of e, rfl, m, 1, rfl, rfl, ?_⟩
      refine ⟨.ref a, rfl, a, _, 2, 2, rfl, rfl, e, rfl, ?_⟩
      have e1 : (upd H a (.lst [.int g, .int sd, .int (m + 1)])) a = some (.lst [.int g, .int sd, .int (m + 1)]) := upd_same
      refine ⟨by decide, fun p np => ?_⟩
      have npa : p ≠ a := (ne_of_none e1 np).symm
      obtain ⟨pr, hat, hp1, hp2⟩ := primes_at (m := m + 1) (by omega)
      have e2 : (upd (upd H a (.lst [.int g, .int sd, .int (m + 1)])) p (.lst [.int 2147483647, .int 2147483629, .int 2147483587, .int 2147483579, .int 2147483563, .int 2147483549, .int 2147483543, .int 2147483497])) a = some (.lst [.int g, .int sd, .int (m + 1)]) := by rw [upd_ne npa.symm]; exact e1
      have e3 : (upd (upd H a (.lst [.int g, .int sd, .int (m + 1)])) p (.lst [.int 2147483647, .int 2147483629, .int 2147483587, .int 2147483579, .int 2147483563, .int 2147483549, .int 2147483543, .int 2147483497])) p = some (.lst [.int 2147483647, .int 2147483629, .int 2147483587, .int 2147483579, .int 2147483563, .int 2147483549, .int 2147483543, .int 2147483497]) := upd_same
      refine ⟨.ref p, rfl, .ref a, rfl, a, _, 2, .int (m + 1), rfl, rfl, SqL.of e2, rfl, m + 1, 8, rfl, rfl, (by show (0 : Int) < 8; decide), p, _, (m + 1) % 8, .int pr, rfl, rfl, SqL.of e3, hat, ?_⟩
      have hsq : (0 : Int) < pr ^ (2 : Int).toNat := by
        show 0 < pr ^ 2
        exact Int.pow_pos (by omega)
      refine ⟨.ref a, rfl, a, _, 1, .int sd, rfl, rfl, SqL.of e2, rfl, .ref a, rfl, a, _, 2, .int (m + 1), rfl, rfl, SqL.of e2, rfl, 69621, m + 1, rfl, rfl, .inl ⟨by decide, by decide⟩, .ref a, rfl, a, _, 2, .int (m + 1), rfl, rfl, SqL.of e2, rfl, _, _, rfl, rfl, .inr ⟨by omega, by omega⟩, _, _, rfl, rfl,
        .int pr, rfl, pr, 2, rfl, rfl, ⟨by decide, by decide, by omega⟩, _, _, rfl, rfl, hsq, .int pr, rfl, _, pr, rfl, rfl, (by show 0 < pr; omega), _, 1, rfl, rfl, ?_⟩
      generalize hz : (sd + 69621 * (m + 1) * (m + 1)) % pr ^ (2 : Int).toNat % pr = z
      have hz0 : 0 ≤ z := by rw [← hz]; exact Int.emod_nonneg _ (by omega)
      have hz1 : z < pr := by rw [← hz]; exact Int.emod_lt_of_pos _ (by omega)
      refine ⟨.int (z + 1), rfl, .int (z + 1), rfl, z + 1, 1009, rfl, rfl, (by show (0 : Int) < 1009; decide), .ref a, rfl, a, _, 2, .int (m + 1), rfl, rfl, SqL.of e2, rfl, _, _, rfl, rfl, z + 1, _, rfl, rfl, .inl ⟨by omega, by omega⟩, .int pr, rfl, _, pr, rfl, rfl, (by show 0 < pr; omega), _, 7, rfl, rfl, ⟨by decide, by decide⟩, .int many, rfl, _, many, rfl, rfl, hm, ?_⟩
      refine q _ _ ?_ ⟨g, sd, m + 1, e2, hg, hs, by omega, by omega⟩ (Int.emod_nonneg _ (by omega)) (Int.emod_lt_of_pos _ hm)
      exact But.put.trans (But.new np)
end
end NG

namespace NG
open PySem PySem.Spec PyProof.Rows L2
section
variable {P : Program} {w : World} {K : PySem.W.Frag} {mg : Str → Option Value} {base : Heap}
theorem ok_hand {f : Addr} {fd : FuncData} (F : Fun K "_law_hand" "_law_hand" s_L_hand f fd) (gF : mg "_law_hand" = some (.ref f)) (b : Binds K fd ["_law_script", "_law_k"] []) (B : Bl mg) : Cal P w K mg base 1 "_law_hand" (spHand K) := by
  refine ⟨f, fd, _, F.ok sc_L_hand (fun vs H Q E h => ?_) (fun cdv A outer s H vs Q E hr h => ?_), gF, F.kp, b⟩
  · obtain ⟨a, m, n, rfl, _⟩ := h
    rfl
  · obtain ⟨a, k, ns, rfl, hk0, hk1, hS, q⟩ := h
    refine ⟨_, (pss_cons (ps_set (i := 2) sc_L_hand.nd rfl (.inl rfl) (pe_cut (pe_ifExp (pt_cmpR op_lt (pv 1) (pe_callB call_len_seq (by rfl) B.len PySem.boot_len (pa_cons (pv 0) pa_nil)) (nomark _)) (pe_ix ix_list (pv 0) (pv 1) (fun _ _ => rfl)) pe_int))) (pss_cons (ps_set (i := 3) sc_L_hand.nd rfl (.inl rfl) (pe_op op_mul (pe_op op_mod (pe_callB call_abs (by rfl) B.abs (by decide +kernel) (pa_cons (pv 2) pa_nil)) (pe_op op_mulW (pe_op op_pow pe_int pe_int) (pe_op op_pow pe_int pe_int))) (pe_callTy call_int1 (by rfl) B.int (by decide +kernel) (pa_cons (pe_cmpR op_ge (pe_callB call_abs (by rfl) B.abs (by decide +kernel) (pa_cons (pv 2) pa_nil)) (pe_op op_pow pe_int pe_int) (nomark _)) pa_nil)))) (pss_one (ps_ret (pe_lst (pa_cons (pv 3) (pa_cons (pe_op op_add (pe_op op_add (pe_op op_mod (pv 2) pe_int) (pe_op op_mul pe_int (pv 1))) pe_int) (pa_cons pe_int pa_nil)))))))), ?_⟩
    refine ⟨fun v H' => H' = H ∧ ∃ c : Int, v = .int c, ?_, fun v H' hv => ?_⟩
    · refine ⟨.int k, rfl, .ref a, rfl, a, _, rfl, .inl hS, k, _, rfl, rfl, _, rfl, iteD (fun c => ?_) (fun c => ?_)⟩
      · exact ⟨.ref a, rfl, .int k, rfl, a, _, k, _, rfl, rfl, hS, at_int hk0 (by rw [List.length_map] at c; exact c), rfl, _, rfl⟩
      · exact ⟨rfl, 0, rfl⟩
    · obtain ⟨rfl, c, rfl⟩ := hv
      refine ⟨.int c, rfl, c, rfl, 10, 60, rfl, rfl, ⟨by decide, by decide, by decide⟩, 10, 60, rfl, rfl, ⟨by decide, by decide, by decide⟩, _, _, rfl, rfl, wide_mul (a := 300) (b := 300) (by decide) (by decide) (by decide) (by decide) (by decide), _, _, rfl, rfl, (by show (0 : Int) < 10 ^ 60 * 10 ^ 60; decide), ?_⟩
      refine ⟨.int c, rfl, c, rfl, 10, 18, rfl, rfl, ⟨by decide, by decide, by decide⟩, _, _, rfl, rfl, .inr ⟨_, rfl, ?_⟩⟩
      have h01 : ∀ z : Bool, (0 : Int) ≤ (if z = true then 1 else 0) ∧ (if z = true then (1 : Int) else 0) ≤ 1 := by
        intro z
        cases z <;> decide
      refine ⟨_, _, rfl, rfl, .inr ⟨by have := h01 (decide ((10 : Int) ^ (18 : Int).toNat ≤ if c < 0 then -c else c)); omega, by have := h01 (decide ((10 : Int) ^ (18 : Int).toNat ≤ if c < 0 then -c else c)); omega⟩, ?_⟩
      refine ⟨_, rfl, .int c, rfl, c, 2305843009213693951, rfl, rfl, (by show (0 : Int) < 2305843009213693951; decide), .int k, rfl, 104729, k, rfl, rfl, .inl ⟨by decide, by decide⟩, _, _, rfl, rfl, _, 7, rfl, rfl, (by show 3 ≤ sizeLine; decide), fun p np => ?_⟩
      refine q p _ _ np (Int.mul_nonneg (Int.emod_nonneg _ (by show (10 : Int) ^ 60 * 10 ^ 60 ≠ 0; decide)) (h01 _).1) ?_
      have : 0 ≤ c % 2305843009213693951 := Int.emod_nonneg _ (by decide)
      omega
theorem ok_of {f : Addr} {fd : FuncData} (F : Fun K "_law_of" "_law_of" s_L_of f fd) (gF : mg "_law_of" = some (.ref f)) (b : Binds K fd ["_law_hand_here", "_law_some"] []) (B : Bl mg) (c_L_take : Cal P w K mg base 1 "_law_take" spTake) : Cal P w K mg base 2 "_law_of" (spOf K) := by
  refine ⟨f, fd, _, F.ok sc_L_of (fun vs H Q E h => ?_) (fun cdv A outer s H vs Q E hr h => ?_), gF, F.kp, b⟩
  · obtain ⟨a, m, n, _, rfl, _⟩ := h
    rfl
  · obtain ⟨a, l, xs, n, rfl, hal, hl, h0, h1, hh, hn, q⟩ := h
    refine ⟨_, (pss_one (ps_ret (pe_ix ix_list (pv 1) (pe_c c_L_take hr (by omega) (by rfl) (pa_cons (pv 0) (pa_cons (pe_callB call_len_seq (by rfl) B.len PySem.boot_len (pa_cons (pv 1) pa_nil)) pa_nil))) (fun _ _ => rfl)))), ?_⟩
    refine ⟨.ref l, rfl, .ref a, rfl, .ref l, rfl, l, _, rfl, .inl (SqL.of hl), ?_⟩
    refine ⟨a, _, n, rfl, by omega, by omega, hh, hn, fun H' r bt hh' r0 r1 => ?_⟩
    have hl' : H' l = some (.lst xs) := bt _ _ (Ne.symm hal) hl
    obtain ⟨v, hv, hm⟩ := at_mem (xs := xs) r0 r1
    exact ⟨l, _, r, v, rfl, rfl, SqL.of hl', hv, q _ _ bt hh' hm⟩
theorem ok_figure {f : Addr} {fd : FuncData} (F : Fun K "_law_figure" "_law_figure" s_L_figure f fd) (gF : mg "_law_figure" = some (.ref f)) (b : Binds K fd ["_law_hand_here"] []) (B : Bl mg) (c_L_take : Cal P w K mg base 1 "_law_take" spTake) (c_L_of : Cal P w K mg base 2 "_law_of" (spOf K)) : Cal P w K mg base 3 "_law_figure" spFigure := by
  refine ⟨f, fd, _, F.ok sc_L_figure (fun vs H Q E h => ?_) (fun cdv A outer s H vs Q E hr h => ?_), gF, F.kp, b⟩
  · obtain ⟨a, m, rfl, _⟩ := h
    rfl
  · obtain ⟨a, n, rfl, hh, hn, q⟩ := h
    refine ⟨_, (pss_cons (ps_set (i := 1) sc_L_figure.nd rfl (.inl rfl) (pe_lst (pa_cons pe_int (pa_cons pe_int (pa_cons (pe_un un_neg pe_int) (pa_cons pe_int (pa_cons pe_int (pa_cons pe_int (pa_cons pe_int (pa_cons (pe_un un_neg pe_int) (pa_cons pe_int (pa_cons (pe_un un_neg pe_int) pa_nil)))))))))))) (pss_one (ps_ret (pe_c c_L_of hr (by omega) (by rfl) (pa_cons (pv 0) (pa_cons (pe_op op_cat (pv 1) (pe_lst (pa_cons (pe_op op_sub (pe_c c_L_take hr (by omega) (by rfl) (pa_cons (pv 0) (pa_cons pe_int pa_nil))) pe_int) (pa_cons (pe_op op_sub (pe_c c_L_take hr (by omega) (by rfl) (pa_cons (pv 0) (pa_cons pe_int pa_nil))) pe_int) pa_nil)))) pa_nil)))))), ?_⟩
    refine ⟨_, rfl, _, rfl, _, rfl, (by show 10 ≤ sizeLine; decide), fun l nl => ?_⟩
    have hla := hh.ne nl
    have hl : (upd H l (.lst [.int 0, .int 1, .int (-1), .int 50, .int 100, .int 250, .int 500, .int (-500), .int 1000, .int (-1000)])) l = _ := upd_same
    refine ⟨.ref a, rfl, .ref l, rfl, .ref a, rfl, a, 2001, n, rfl, by decide, by decide, hh.new nl, by omega, fun H1 r1 b1 hh1 r10 r11 => ⟨_, _, rfl, rfl, ?_⟩⟩
    refine ⟨.ref a, rfl, a, 201, n + 1, rfl, by decide, by decide, hh1, by omega, fun H2 r2 b2 hh2 r20 r21 => ⟨_, _, rfl, rfl, ?_⟩⟩
    refine ⟨(by show 2 ≤ sizeLine; decide), fun l2 nl2 => ?_⟩
    have hl2a := hh2.ne nl2
    have e1 : H2 l = some (.lst [.int 0, .int 1, .int (-1), .int 50, .int 100, .int 250, .int 500, .int (-500), .int 1000, .int (-1000)]) := b2 _ _ hla (b1 _ _ hla hl)
    refine ⟨l, l2, _, _, rfl, rfl, by rw [upd_ne (ne_of_none e1 nl2)]; exact e1, upd_same, (by show 12 ≤ sizeLine; decide), fun l3 nl3 => ?_⟩
    have hh3 := (hh2.new (o := .lst [.int (r1 - 1000), .int (r2 - 100)]) nl2)
    refine ⟨a, l3, _, n + 2, rfl, (hh3.ne nl3).symm, upd_same, (by show 0 < 12; decide), (by show 12 ≤ 1000; decide), hh3.new nl3, by omega, fun H4 v b4 hh4 hv => ?_⟩
    have bb : But a H H4 := (((((But.new nl).trans b1).trans b2).trans (But.new nl2)).trans (But.new nl3)).trans b4
    have key : ∃ c : Int, v = .int c ∧ -1000 ≤ c ∧ c ≤ 1000 := by
      simp only [List.cons_append, List.nil_append, List.mem_cons, List.not_mem_nil, or_false] at hv
      rcases hv with rfl | rfl | rfl | rfl | rfl | rfl | rfl | rfl | rfl | rfl | rfl | rfl
      all_goals exact ⟨_, rfl, by omega, by omega⟩
    obtain ⟨c, rfl, c0, c1⟩ := key
    exact q _ _ bb hh4 c0 c1
end
end NG

namespace NG
open PySem PySem.Spec PyProof.Rows L2
section
variable {P : Program} {w : World} {K : PySem.W.Frag} {mg : Str → Option Value} {base : Heap}
theorem ok_led {f : Addr} {fd : FuncData} (F : Fun K "led_part" "led_part" s_led_part f fd) (gF : mg "led_part" = some (.ref f)) (b : Binds K fd ["expression", "registers"] []) (B : Bl mg) : Cal P w K mg base 1 "led_part" (spLed K) := by
  refine ⟨f, fd, _, F.ok sc_led_part (fun vs H Q E h => ?_) (fun cdv A outer s H vs Q E hr h => ?_), gF, F.kp, b⟩
  · obtain ⟨_, _, _, _, _, _, _, rfl, _⟩ := h
    rfl
  · obtain ⟨p, _, x, y, i, c, rs, rfl, hp, hi, ⟨r, rfl, hr', hl, hb⟩, q⟩ := h
    refine ⟨_, (pss_cons (ps_asg (pv 0) (pg_tup rfl (pgs_cons (pg_name (i := 2) sc_led_part.nd rfl (.inl rfl)) (pgs_cons (pg_name (i := 3) sc_led_part.nd rfl (.inl rfl)) (pgs_cons (pg_name (i := 4) sc_led_part.nd rfl (.inl rfl)) (pgs_cons (pg_name (i := 5) sc_led_part.nd rfl (.inl rfl)) (pgs_cons (pg_name (i := 6) sc_led_part.nd rfl (.inl rfl)) pgs_nil))))))) (pss_one (ps_ret (pe_ifExp (pt_cmpR op_lt (pe_ix ix_tup (pv 1) (pv 3) (fun _ _ => rfl)) (pv 4) (nomark _)) (pv 5) (pv 6))))), ?_⟩
    refine ⟨.ref p, rfl, p, _, rfl, hp, rfl, _, _, rfl, _, _, rfl, _, _, rfl, _, _, rfl, _, _, rfl, rfl, ?_⟩
    refine ⟨.ref r, rfl, .int (i : Int), rfl, r, _, _, _, rfl, rfl, hr', at_nth (by omega), .int c, rfl, _, _, rfl, rfl, _, rfl, iteD (fun h => ?_) (fun h => ?_)⟩
    · rw [if_pos h] at q
      exact ⟨x, rfl, q⟩
    · rw [if_neg h] at q
      exact ⟨y, rfl, q⟩
theorem ok_side {f : Addr} {fd : FuncData} (F : Fun K "side_part" "side_part" s_side_part f fd) (gF : mg "side_part" = some (.ref f)) (b : Binds K fd ["expression", "shares"] []) (B : Bl mg) : Cal P w K mg base 1 "side_part" (spSide K) := by
  refine ⟨f, fd, _, F.ok sc_side_part (fun vs H Q E h => ?_) (fun cdv A outer s H vs Q E hr h => ?_), gF, F.kp, b⟩
  · obtain ⟨_, _, _, _, _, _, _, _, rfl, _⟩ := h
    rfl
  · obtain ⟨p, _, x, y, many, j, c, ss, rfl, hp, hj, hc, ⟨r, rfl, hr', hl, hb, h0, h1⟩, q⟩ := h
    refine ⟨_, (pss_cons (ps_asg (pv 0) (pg_tup rfl (pgs_cons (pg_name (i := 2) sc_side_part.nd rfl (.inl rfl)) (pgs_cons (pg_name (i := 3) sc_side_part.nd rfl (.inl rfl)) (pgs_cons (pg_name (i := 4) sc_side_part.nd rfl (.inl rfl)) (pgs_cons (pg_name (i := 5) sc_side_part.nd rfl (.inl rfl)) (pgs_cons (pg_name (i := 6) sc_side_part.nd rfl (.inl rfl)) pgs_nil))))))) (pss_one (ps_ret (pe_ifExp (pt_cmpR op_lt (pe_op op_mul pe_int (pe_ix ix_tup (pv 1) (pv 3) (fun _ _ => rfl))) (pe_op op_mul (pv 4) (pe_callB (cr_sumT rfl) (by rfl) B.sum (by decide +kernel) (pa_cons (pv 1) pa_nil))) (nomark _)) (pv 5) (pv 6))))), ?_⟩
    refine ⟨.ref p, rfl, p, _, rfl, hp, rfl, _, _, rfl, _, _, rfl, _, _, rfl, _, _, rfl, _, _, rfl, rfl, ?_⟩
    refine ⟨.ref r, rfl, .int (j : Int), rfl, r, _, _, _, rfl, rfl, hr', at_nth (by omega), 1000, _, rfl, rfl, .inl ⟨by decide, by decide⟩, .int c, rfl, .ref r, rfl, r, ss, rfl, hr', c, _, rfl, rfl, .inl ⟨by omega, by omega⟩, _, _, rfl, rfl, _, rfl, iteD (fun h => ?_) (fun h => ?_)⟩
    · rw [if_pos h] at q
      exact ⟨x, rfl, q⟩
    · rw [if_neg h] at q
      exact ⟨y, rfl, q⟩
theorem ok_joinW {f : Addr} {fd : FuncData} (F : Fun K "join_worths" "join_worths" s_join_worths f fd) (gF : mg "join_worths" = some (.ref f)) (b : Binds K fd ["word", "first", "second"] []) (B : Bl mg) : Cal P w K mg base 1 "join_worths" spJoinW := by
  refine ⟨f, fd, _, F.ok sc_join_worths (fun vs H Q E h => ?_) (fun cdv A outer s H vs Q E hr h => ?_), gF, F.kp, b⟩
  · obtain ⟨_, _, _, rfl, _⟩ := h
    rfl
  · obtain ⟨o, x, y, rfl, q⟩ := h
    refine ⟨_, (pss_cons (ps_if (pt_cmpR op_eq (pv 0) pe_str (nomark _)) (pss_one (ps_ret (pe_op op_add (pv 1) (pv 2)))) pss_nil) (pss_cons (ps_if (pt_cmpR op_eq (pv 0) pe_str (nomark _)) (pss_one (ps_ret (pe_op op_sub (pv 1) (pv 2)))) pss_nil) (pss_one (ps_ret (pe_ifExp (pt_cmpR op_eq (pv 0) pe_str (nomark _)) (pe_callB (call_min2 rfl) (by rfl) B.min (by decide +kernel) (pa_cons (pv 1) (pa_cons (pv 2) pa_nil))) (pe_callB (call_max2 rfl) (by rfl) B.max (by decide +kernel) (pa_cons (pv 1) (pa_cons (pv 2) pa_nil)))))))), ?_⟩
    refine ⟨_, rfl, rfl, _, rfl, ?_⟩
    cases o with
    | sum =>
      refine iteTT (by decide) ?_
      exact ⟨_, rfl, _, rfl, _, _, rfl, rfl, q⟩
    | less =>
      refine iteFF (by decide) ?_
      refine ⟨_, rfl, rfl, _, rfl, iteTT (by decide) ?_⟩
      exact ⟨_, rfl, _, rfl, _, _, rfl, rfl, q⟩
    | least =>
      refine iteFF (by decide) ?_
      refine ⟨_, rfl, rfl, _, rfl, iteFF (by decide) ?_⟩
      refine ⟨_, rfl, rfl, _, rfl, iteTT (by decide) ?_⟩
      exact ⟨_, rfl, _, rfl, _, _, rfl, q⟩
    | most =>
      refine iteFF (by decide) ?_
      refine ⟨_, rfl, rfl, _, rfl, iteFF (by decide) ?_⟩
      refine ⟨_, rfl, rfl, _, rfl, iteFF (by decide) ?_⟩
      exact ⟨_, rfl, _, rfl, _, _, rfl, q⟩
theorem wn_ne {o : W4} {s : Str} (h : s = "fig" ∨ s = "reg" ∨ s = "share" ∨ s = "times" ∨ s = "by" ∨ s = "when" ∨ s = "where") : decide (V.str (wn o) = V.str s) = false := by
  rcases h with rfl | rfl | rfl | rfl | rfl | rfl | rfl <;> cases o <;> decide
theorem fn_worth {f : Addr} {fd : FuncData} (F : Fun K "worth" "worth" s_worth f fd) (gF : mg "worth" = some (.ref f)) (b : Binds K fd ["expression", "registers", "shares"] []) (B : Bl mg) (c_led_part : Cal P w K mg base 1 "led_part" (spLed K)) (c_side_part : Cal P w K mg base 1 "side_part" (spSide K)) (c_join_worths : Cal P w K mg base 1 "join_worths" spJoinW) : ∀ n, FnOk P w K mg base CX0 (n + 2) f fd ["expression", "registers", "shares"] (spWorth K n) := by
  intro n
  induction n with
  | zero =>
    refine fn_never fun vs H Q E h => ?_
    obtain ⟨_, _, _, e, _, _, _, _, _, _, hd, _⟩ := h
    cases e <;> (unfold Ex.dep at hd; omega)
  | succ n ih =>
  have c_worth : Cal P w K mg base (n + 2) "worth" (spWorth K n) := ⟨f, fd, _, ih, gF, F.kp, b⟩
  refine F.ok sc_worth (fun vs H Q E h => ?_) (fun cdv A outer s H vs Q E hr h => ?_)
  · obtain ⟨_, _, _, _, _, _, _, rfl, _⟩ := h
    rfl
  · obtain ⟨v, _, _, e, many, rs, ss, rfl, he, ho, hd, hR, hS, q⟩ := h
    refine ⟨_, (pss_cons (ps_set (i := 3) sc_worth.nd rfl (.inl rfl) (pe_ix ix_tup (pv 0) pe_int (fun _ _ => rfl))) (pss_cons (ps_if (pt_cmpR op_eq (pv 3) pe_str (nomark _)) (pss_one (ps_ret (pe_op op_mul (pe_ix ix_tup (pv 0) pe_int (fun _ _ => rfl)) (pe_callB (cr_sumT rfl) (by rfl) B.sum (by decide +kernel) (pa_cons (pv 2) pa_nil))))) pss_nil) (pss_cons (ps_if (pt_cmpR op_eq (pv 3) pe_str (nomark _)) (pss_one (ps_ret (pe_op op_mul (pe_ix ix_tup (pv 1) (pe_ix ix_tup (pv 0) pe_int (fun _ _ => rfl)) (fun _ _ => rfl)) (pe_callB (cr_sumT rfl) (by rfl) B.sum (by decide +kernel) (pa_cons (pv 2) pa_nil))))) pss_nil) (pss_cons (ps_if (pt_cmpR op_eq (pv 3) pe_str (nomark _)) (pss_one (ps_ret (pe_op op_mul pe_int (pe_ix ix_tup (pv 2) (pe_ix ix_tup (pv 0) pe_int (fun _ _ => rfl)) (fun _ _ => rfl))))) pss_nil) (pss_cons (ps_if (pt_cmpR op_eq (pv 3) pe_str (nomark _)) (pss_one (ps_ret (pe_op op_mul (pe_ix ix_tup (pv 0) pe_int (fun _ _ => rfl)) (pe_c c_worth hr (by omega) (by rfl) (pa_cons (pe_ix ix_tup (pv 0) pe_int (fun _ _ => rfl)) (pa_cons (pv 1) (pa_cons (pv 2) pa_nil))))))) pss_nil) (pss_cons (ps_if (pt_cmpR op_eq (pv 3) pe_str (nomark _)) (pss_one (ps_ret (pe_op op_mul (pe_ix ix_tup (pv 1) (pe_ix ix_tup (pv 0) pe_int (fun _ _ => rfl)) (fun _ _ => rfl)) (pe_c c_worth hr (by omega) (by rfl) (pa_cons (pe_ix ix_tup (pv 0) pe_int (fun _ _ => rfl)) (pa_cons (pv 1) (pa_cons (pv 2) pa_nil))))))) pss_nil) (pss_cons (ps_if (pt_cmpR op_eq (pv 3) pe_str (nomark _)) (pss_one (ps_ret (pe_c c_worth hr (by omega) (by rfl) (pa_cons (pe_c c_led_part hr (by omega) (by rfl) (pa_cons (pv 0) (pa_cons (pv 1) pa_nil))) (pa_cons (pv 1) (pa_cons (pv 2) pa_nil)))))) pss_nil) (pss_cons (ps_if (pt_cmpR op_eq (pv 3) pe_str (nomark _)) (pss_one (ps_ret (pe_c c_worth hr (by omega) (by rfl) (pa_cons (pe_c c_side_part hr (by omega) (by rfl) (pa_cons (pv 0) (pa_cons (pv 2) pa_nil))) (pa_cons (pv 1) (pa_cons (pv 2) pa_nil)))))) pss_nil) (pss_cons (ps_set (i := 4) sc_worth.nd rfl (.inl rfl) (pe_c c_worth hr (by omega) (by rfl) (pa_cons (pe_ix ix_tup (pv 0) pe_int (fun _ _ => rfl)) (pa_cons (pv 1) (pa_cons (pv 2) pa_nil))))) (pss_cons (ps_set (i := 5) sc_worth.nd rfl (.inl rfl) (pe_c c_worth hr (by omega) (by rfl) (pa_cons (pe_ix ix_tup (pv 0) pe_int (fun _ _ => rfl)) (pa_cons (pv 1) (pa_cons (pv 2) pa_nil))))) (pss_one (ps_ret (pe_c c_join_worths hr (by omega) (by rfl) (pa_cons (pv 3) (pa_cons (pv 4) (pa_cons (pv 5) pa_nil)))))))))))))))), ?_⟩
    have hR0 := hR
    have hS0 := hS
    obtain ⟨r, rfl, hr1, hr2, hr3⟩ := hR
    obtain ⟨t, rfl, ht1, ht2, ht3, ht4, ht5⟩ := hS
    have rb : ∀ i, i < 4 → -1000 ≤ rs.getD i 0 ∧ rs.getD i 0 ≤ 1000 := fun i hi => hr3 _ (getD_mem (by omega))
    cases e with
    | fig c =>
      obtain ⟨p, rfl, hp⟩ := he
      obtain ⟨o1, o2⟩ := ho
      refine ⟨.ref p, rfl, p, _, 0, _, rfl, rfl, hp, rfl, ?_⟩
      refine ⟨_, rfl, rfl, _, rfl, iteTT (by decide) ?_⟩
      exact ⟨.ref p, rfl, p, _, 1, _, rfl, rfl, hp, rfl, .ref t, rfl, t, ss, rfl, ht1, c, _, rfl, rfl, .inl ⟨by omega, by omega⟩, q⟩
    | reg i =>
      obtain ⟨p, rfl, hp⟩ := he
      have ho : i < 4 := ho
      have := rb i ho
      refine ⟨.ref p, rfl, p, _, 0, _, rfl, rfl, hp, rfl, ?_⟩
      refine ⟨_, rfl, rfl, _, rfl, iteFF (by decide) ⟨_, rfl, rfl, _, rfl, iteTT (by decide) ?_⟩⟩
      exact ⟨.ref r, rfl, .ref p, rfl, p, _, 1, _, rfl, rfl, hp, rfl, r, _, _, _, rfl, rfl, hr1, at_nth (by omega), .ref t, rfl, t, ss, rfl, ht1, _, _, rfl, rfl, .inl ⟨by omega, by omega⟩, q⟩
    | share j =>
      obtain ⟨p, rfl, hp⟩ := he
      have ho : j < many := ho
      refine ⟨.ref p, rfl, p, _, 0, _, rfl, rfl, hp, rfl, ?_⟩
      refine ⟨_, rfl, rfl, _, rfl, iteFF (by decide) ⟨_, rfl, rfl, _, rfl, iteFF (by decide) ⟨_, rfl, rfl, _, rfl, iteTT (by decide) ?_⟩⟩⟩
      exact ⟨.ref t, rfl, .ref p, rfl, p, _, 1, _, rfl, rfl, hp, rfl, t, _, _, _, rfl, rfl, ht1, at_nth (by omega), 1000, _, rfl, rfl, .inl ⟨by decide, by decide⟩, q⟩
    | times fa a =>
      obtain ⟨p, x, rfl, hp, ha⟩ := he
      obtain ⟨⟨o1, o2⟩, oa⟩ := ho
      have hd : a.dep + 1 ≤ n + 1 := hd
      refine ⟨.ref p, rfl, p, _, 0, _, rfl, rfl, hp, rfl, ?_⟩
      refine ⟨_, rfl, rfl, _, rfl, iteFF (by decide) ⟨_, rfl, rfl, _, rfl, iteFF (by decide) ⟨_, rfl, rfl, _, rfl, iteFF (by decide) ⟨_, rfl, rfl, _, rfl, iteTT (by decide) ?_⟩⟩⟩⟩
      refine ⟨.ref p, rfl, p, _, 1, _, rfl, rfl, hp, rfl, .ref p, rfl, p, _, 2, _, rfl, rfl, hp, rfl, .ref r, rfl, .ref t, rfl, ?_⟩
      exact ⟨x, _, _, a, many, rs, ss, rfl, ha, oa, by omega, hR0, hS0, fa, _, rfl, rfl, .inl ⟨by omega, by omega⟩, q⟩
    | «by» i a =>
      obtain ⟨p, x, rfl, hp, ha⟩ := he
      obtain ⟨o1, oa⟩ := ho
      have := rb i o1
      have hd : a.dep + 1 ≤ n + 1 := hd
      refine ⟨.ref p, rfl, p, _, 0, _, rfl, rfl, hp, rfl, ?_⟩
      refine ⟨_, rfl, rfl, _, rfl, iteFF (by decide) ⟨_, rfl, rfl, _, rfl, iteFF (by decide) ⟨_, rfl, rfl, _, rfl, iteFF (by decide) ⟨_, rfl, rfl, _, rfl, iteFF (by decide) ⟨_, rfl, rfl, _, rfl, iteTT (by decide) ?_⟩⟩⟩⟩⟩
      refine ⟨.ref r, rfl, .ref p, rfl, p, _, 1, _, rfl, rfl, hp, rfl, r, _, _, _, rfl, rfl, hr1, at_nth (by omega), .ref p, rfl, p, _, 2, _, rfl, rfl, hp, rfl, .ref r, rfl, .ref t, rfl, ?_⟩
      exact ⟨x, _, _, a, many, rs, ss, rfl, ha, oa, by omega, hR0, hS0, _, _, rfl, rfl, .inl ⟨by omega, by omega⟩, q⟩
    | when i c x1 y1 =>
      obtain ⟨p, x, y, rfl, hp, ha, hb⟩ := he
      obtain ⟨o1, _, oa, ob⟩ := ho
      have hd : max x1.dep y1.dep + 1 ≤ n + 1 := hd
      refine ⟨.ref p, rfl, p, _, 0, _, rfl, rfl, hp, rfl, ?_⟩
      refine ⟨_, rfl, rfl, _, rfl, iteFF (by decide) ⟨_, rfl, rfl, _, rfl, iteFF (by decide) ⟨_, rfl, rfl, _, rfl, iteFF (by decide) ⟨_, rfl, rfl, _, rfl, iteFF (by decide) ⟨_, rfl, rfl, _, rfl, iteFF (by decide) ⟨_, rfl, rfl, _, rfl, iteTT (by decide) ?_⟩⟩⟩⟩⟩⟩
      refine ⟨.ref p, rfl, .ref r, rfl, p, _, x, y, i, c, rs, rfl, hp, o1, hR0, .ref r, rfl, .ref t, rfl, ?_⟩
      by_cases hc : rs.getD i 0 < c
      · rw [if_pos hc]
        refine ⟨x, _, _, x1, many, rs, ss, rfl, ha, oa, by omega, hR0, hS0, ?_⟩
        have q2 : Q (.int (if rs.getD i 0 < c then wo rs ss x1 else wo rs ss y1)) H := q
        rw [if_pos hc] at q2
        exact q2
      · rw [if_neg hc]
        refine ⟨y, _, _, y1, many, rs, ss, rfl, hb, ob, by omega, hR0, hS0, ?_⟩
        have q2 : Q (.int (if rs.getD i 0 < c then wo rs ss x1 else wo rs ss y1)) H := q
        rw [if_neg hc] at q2
        exact q2
    | whr j c x1 y1 =>
      obtain ⟨p, x, y, rfl, hp, ha, hb⟩ := he
      obtain ⟨o1, o2, oa, ob⟩ := ho
      have hd : max x1.dep y1.dep + 1 ≤ n + 1 := hd
      refine ⟨.ref p, rfl, p, _, 0, _, rfl, rfl, hp, rfl, ?_⟩
      refine ⟨_, rfl, rfl, _, rfl, iteFF (by decide) ⟨_, rfl, rfl, _, rfl, iteFF (by decide) ⟨_, rfl, rfl, _, rfl, iteFF (by decide) ⟨_, rfl, rfl, _, rfl, iteFF (by decide) ⟨_, rfl, rfl, _, rfl, iteFF (by decide) ⟨_, rfl, rfl, _, rfl, iteFF (by decide) ⟨_, rfl, rfl, _, rfl, iteTT (by decide) ?_⟩⟩⟩⟩⟩⟩⟩
      refine ⟨.ref p, rfl, .ref t, rfl, p, _, x, y, many, j, c, ss, rfl, hp, o1, o2, hS0, .ref r, rfl, .ref t, rfl, ?_⟩
      by_cases hc : 1000 * ss.getD j 0 < c * ss.sum
      · rw [if_pos hc]
        refine ⟨x, _, _, x1, many, rs, ss, rfl, ha, oa, by omega, hR0, hS0, ?_⟩
        have q2 : Q (.int (if 1000 * ss.getD j 0 < c * ss.sum then wo rs ss x1 else wo rs ss y1)) H := q
        rw [if_pos hc] at q2
        exact q2
      · rw [if_neg hc]
        refine ⟨y, _, _, y1, many, rs, ss, rfl, hb, ob, by omega, hR0, hS0, ?_⟩
        have q2 : Q (.int (if 1000 * ss.getD j 0 < c * ss.sum then wo rs ss x1 else wo rs ss y1)) H := q
        rw [if_neg hc] at q2
        exact q2
    | two o x1 y1 =>
      obtain ⟨p, x, y, rfl, hp, ha, hb⟩ := he
      obtain ⟨oa, ob⟩ := ho
      have hd : max x1.dep y1.dep + 1 ≤ n + 1 := hd
      refine ⟨.ref p, rfl, p, _, 0, _, rfl, rfl, hp, rfl, ?_⟩
      refine ⟨_, rfl, rfl, _, rfl, iteFF (wn_ne (by simp)) ⟨_, rfl, rfl, _, rfl, iteFF (wn_ne (by simp)) ⟨_, rfl, rfl, _, rfl, iteFF (wn_ne (by simp)) ⟨_, rfl, rfl, _, rfl, iteFF (wn_ne (by simp)) ⟨_, rfl, rfl, _, rfl, iteFF (wn_ne (by simp)) ⟨_, rfl, rfl, _, rfl, iteFF (wn_ne (by simp)) ⟨_, rfl, rfl, _, rfl, iteFF (wn_ne (by simp)) ?_⟩⟩⟩⟩⟩⟩⟩
      refine ⟨.ref p, rfl, p, _, 1, _, rfl, rfl, hp, rfl, .ref r, rfl, .ref t, rfl, x, _, _, x1, many, rs, ss, rfl, ha, oa, by omega, hR0, hS0, ?_⟩
      refine ⟨.ref p, rfl, p, _, 2, _, rfl, rfl, hp, rfl, .ref r, rfl, .ref t, rfl, y, _, _, y1, many, rs, ss, rfl, hb, ob, by omega, hR0, hS0, ?_⟩
      exact ⟨_, rfl, _, rfl, _, rfl, o, _, _, rfl, q⟩
theorem ok_worth {f : Addr} {fd : FuncData} (F : Fun K "worth" "worth" s_worth f fd) (gF : mg "worth" = some (.ref f)) (b : Binds K fd ["expression", "registers", "shares"] []) (B : Bl mg) (c_led_part : Cal P w K mg base 1 "led_part" (spLed K)) (c_side_part : Cal P w K mg base 1 "side_part" (spSide K)) (c_join_worths : Cal P w K mg base 1 "join_worths" spJoinW) : ∀ n, Cal P w K mg base (n + 2) "worth" (spWorth K n) := fun n => ⟨f, fd, _, fn_worth F gF b B c_led_part c_side_part c_join_worths n, gF, F.kp, b⟩
end
end NG

namespace NG
open PySem PySem.Spec PyProof.Rows L2
section
variable {P : Program} {w : World} {K : PySem.W.Frag} {mg : Str → Option Value} {base : Heap}
theorem ok_leaf {f : Addr} {fd : FuncData} (F : Fun K "_law_leaf" "_law_leaf" s_L_leaf f fd) (gF : mg "_law_leaf" = some (.ref f)) (b : Binds K fd ["_law_hand_here", "_law_many"] []) (B : Bl mg) (c_L_take : Cal P w K mg base 1 "_law_take" spTake) (c_L_figure : Cal P w K mg base 3 "_law_figure" spFigure) : Cal P w K mg base 4 "_law_leaf" (spLeaf K) := by
  refine ⟨f, fd, _, F.ok sc_L_leaf (fun vs H Q E h => ?_) (fun cdv A outer s H vs Q E hr h => ?_), gF, F.kp, b⟩
  · obtain ⟨_, _, _, rfl, _⟩ := h
    rfl
  · obtain ⟨a, many, n, rfl, hm1, hm2, hh, hn, q⟩ := h
    refine ⟨_, (pss_cons (ps_set (i := 2) sc_L_leaf.nd rfl (.inl rfl) (pe_c c_L_take hr (by omega) (by rfl) (pa_cons (pv 0) (pa_cons pe_int pa_nil)))) (pss_cons (ps_if (pt_cmpR op_eq (pv 2) pe_int (nomark _)) (pss_one (ps_ret (pe_tup (pa_cons pe_str (pa_cons (pe_c c_L_take hr (by omega) (by rfl) (pa_cons (pv 0) (pa_cons pe_int pa_nil))) pa_nil))))) pss_nil) (pss_one (ps_ret (pe_ifExp (pt_cmpR op_eq (pv 2) pe_int (nomark _)) (pe_tup (pa_cons pe_str (pa_cons (pe_c c_L_figure hr (by omega) (by rfl) (pa_cons (pv 0) pa_nil)) pa_nil))) (pe_tup (pa_cons pe_str (pa_cons (pe_c c_L_take hr (by omega) (by rfl) (pa_cons (pv 0) (pa_cons (pv 1) pa_nil))) pa_nil)))))))), ?_⟩
    refine ⟨.ref a, rfl, a, 4, n, rfl, by decide, by decide, hh, by omega, fun H1 r b1 hh1 r0 r1 => ?_⟩
    refine ⟨.int r, rfl, rfl, _, rfl, iteD (fun c => ?_) (fun c => ?_)⟩
    · refine ⟨.ref a, rfl, a, 4, n + 1, rfl, by decide, by decide, hh1, by omega, fun H2 r2 b2 hh2 r20 r21 => ⟨(by show 2 ≤ sizeLine; decide), fun p np => ?_⟩⟩
      refine q _ _ (.reg r2.toNat) ((b1.trans b2).trans (But.new np)) ((hh2.new np).le (by omega)) ⟨p, rfl, ?_⟩ (by show r2.toNat < 4; omega) (Nat.le_refl _)
      rw [Int.toNat_of_nonneg r20]
      exact SqT.of upd_same
    · refine ⟨.int r, rfl, rfl, _, rfl, iteD (fun c => ?_) (fun c => ?_)⟩
      · refine ⟨.ref a, rfl, a, n + 1, rfl, hh1, by omega, fun H2 r2 b2 hh2 r20 r21 => ⟨(by show 2 ≤ sizeLine; decide), fun p np => ?_⟩⟩
        exact q _ _ (.fig r2) ((b1.trans b2).trans (But.new np)) ((hh2.new np).le (by omega)) ⟨p, rfl, SqT.of upd_same⟩ ⟨r20, r21⟩ (Nat.le_refl _)
      · refine ⟨.ref a, rfl, .int (many : Int), rfl, a, _, n + 1, rfl, by omega, by omega, hh1, by omega, fun H2 r2 b2 hh2 r20 r21 => ⟨(by show 2 ≤ sizeLine; decide), fun p np => ?_⟩⟩
        refine q _ _ (.share r2.toNat) ((b1.trans b2).trans (But.new np)) ((hh2.new np).le (by omega)) ⟨p, rfl, ?_⟩ (by show r2.toNat < many; omega) (Nat.le_refl _)
        rw [Int.toNat_of_nonneg r20]
        exact SqT.of upd_same
def isW (s : Str) : Prop := s = "sum" ∨ s = "less" ∨ s = "least" ∨ s = "most" ∨ s = "times" ∨ s = "by" ∨ s = "when" ∨ s = "leaf" ∨ s = "where"
theorem ok_expr {f : Addr} {fd : FuncData} (F : Fun K "_law_expression" "_law_expression" s_L_expression f fd) (gF : mg "_law_expression" = some (.ref f)) (b : Binds K fd ["_law_hand_here", "_law_many", "_law_level", "_law_jumps"] []) (B : Bl mg) (c_L_take : Cal P w K mg base 1 "_law_take" spTake) (c_L_of : Cal P w K mg base 2 "_law_of" (spOf K)) (c_L_figure : Cal P w K mg base 3 "_law_figure" spFigure) (c_L_leaf : Cal P w K mg base 4 "_law_leaf" (spLeaf K)) : ∀ n, Cal P w K mg base (n + 4) "_law_expression" (spExpr K n) := by
  intro n
  induction n with
  | zero =>
    refine cal_never F gF b fun vs H Q E h => ?_
    obtain ⟨_, _, l, _, _, hl, _⟩ := h
    omega
  | succ n c_L_expression =>
  refine ⟨f, fd, _, F.ok sc_L_expression (fun vs H Q E h => ?_) (fun cdv A outer s H vs Q E hr h => ?_), gF, F.kp, b⟩
  · obtain ⟨_, _, _, _, rfl, _⟩ := h
    rfl
  · obtain ⟨a, many, l, k, rfl, hl, hm1, hm2, hh, hk, q⟩ := h
    refine ⟨_, (pss_cons (ps_set (i := 4) sc_L_expression.nd rfl (.inl rfl) (pe_lst (pa_cons pe_str (pa_cons pe_str (pa_cons pe_str (pa_cons pe_str (pa_cons pe_str (pa_cons pe_str (pa_cons pe_str (pa_cons pe_str (pa_cons pe_str (pa_cons pe_str pa_nil)))))))))))) (pss_cons (ps_set (i := 4) sc_L_expression.nd rfl (.inl rfl) (pe_op op_cat (pv 4) (pe_op op_rep (pe_lst (pa_cons pe_str (pa_cons pe_str pa_nil))) (pv 3)))) (pss_cons (ps_set (i := 5) sc_L_expression.nd rfl (.inl rfl) (pe_cut (pe_ifExp (pt_cmpR op_eq (pv 2) pe_int (nomark _)) pe_str (pe_c c_L_of hr (by omega) (by rfl) (pa_cons (pv 0) (pa_cons (pv 4) pa_nil)))))) (pss_cons (ps_if (pt_cmpR op_eq (pv 5) pe_str (nomark _)) (pss_one (ps_ret (pe_c c_L_leaf hr (by omega) (by rfl) (pa_cons (pv 0) (pa_cons (pv 1) pa_nil))))) pss_nil) (pss_cons (ps_set (i := 6) sc_L_expression.nd rfl (.inl rfl) (pe_c c_L_expression hr (by omega) (by rfl) (pa_cons (pv 0) (pa_cons (pv 1) (pa_cons (pe_op op_sub (pv 2) pe_int) (pa_cons (pv 3) pa_nil)))))) (pss_cons (ps_if (pt_cmpR op_eq (pv 5) pe_str (nomark _)) (pss_one (ps_ret (pe_tup (pa_cons (pv 5) (pa_cons (pe_op op_sub (pe_c c_L_take hr (by omega) (by rfl) (pa_cons (pv 0) (pa_cons pe_int pa_nil))) pe_int) (pa_cons (pv 6) pa_nil)))))) pss_nil) (pss_cons (ps_if (pt_cmpR op_eq (pv 5) pe_str (nomark _)) (pss_one (ps_ret (pe_tup (pa_cons (pv 5) (pa_cons (pe_c c_L_take hr (by omega) (by rfl) (pa_cons (pv 0) (pa_cons pe_int pa_nil))) (pa_cons (pv 6) pa_nil)))))) pss_nil) (pss_cons (ps_set (i := 7) sc_L_expression.nd rfl (.inl rfl) (pe_c c_L_expression hr (by omega) (by rfl) (pa_cons (pv 0) (pa_cons (pv 1) (pa_cons (pe_op op_sub (pv 2) pe_int) (pa_cons (pv 3) pa_nil)))))) (pss_cons (ps_if (pt_cmpR op_eq (pv 5) pe_str (nomark _)) (pss_one (ps_ret (pe_tup (pa_cons (pv 5) (pa_cons (pe_c c_L_take hr (by omega) (by rfl) (pa_cons (pv 0) (pa_cons pe_int pa_nil))) (pa_cons (pe_c c_L_figure hr (by omega) (by rfl) (pa_cons (pv 0) pa_nil)) (pa_cons (pv 6) (pa_cons (pv 7) pa_nil)))))))) pss_nil) (pss_cons (ps_if (pt_cmpR op_eq (pv 5) pe_str (nomark _)) (pss_cons (ps_set (i := 8) sc_L_expression.nd rfl (.inl rfl) (pe_c c_L_of hr (by omega) (by rfl) (pa_cons (pv 0) (pa_cons (pe_lst (pa_cons pe_int (pa_cons pe_int (pa_cons pe_int (pa_cons pe_int (pa_cons pe_int (pa_cons (pe_op op_add pe_int (pe_c c_L_take hr (by omega) (by rfl) (pa_cons (pv 0) (pa_cons pe_int pa_nil)))) pa_nil))))))) pa_nil)))) (pss_one (ps_ret (pe_tup (pa_cons (pv 5) (pa_cons (pe_c c_L_take hr (by omega) (by rfl) (pa_cons (pv 0) (pa_cons (pv 1) pa_nil))) (pa_cons (pv 8) (pa_cons (pv 6) (pa_cons (pv 7) pa_nil))))))))) pss_nil) (pss_one (ps_ret (pe_tup (pa_cons (pv 5) (pa_cons (pv 6) (pa_cons (pv 7) pa_nil)))))))))))))))), ?_⟩
    refine ⟨(by show 10 ≤ sizeLine; decide), fun p1 n1 => ?_⟩
    have hh1 := hh.new (o := .lst [.str "sum", .str "less", .str "least", .str "most", .str "least", .str "most", .str "times", .str "by", .str "when", .str "leaf"]) n1
    refine ⟨.ref p1, rfl, (by show 2 ≤ sizeLine; decide), fun p2 n2 => ?_⟩
    have e1 : (upd H p1 (.lst [.str "sum", .str "less", .str "least", .str "most", .str "least", .str "most", .str "times", .str "by", .str "when", .str "leaf"])) p1 = _ := upd_same
    have hh2 := hh1.new (o := .lst [.str "where", .str "where"]) n2
    refine ⟨.int 1, rfl, p2, 1, _, rfl, rfl, upd_same, by decide, by decide, (by show 2 * 1 ≤ sizeLine; decide), fun p3 n3 => ?_⟩
    have hh3 := hh2.new (o := .lst [.str "where", .str "where"]) n3
    have e2 : (upd (upd H p1 (.lst [.str "sum", .str "less", .str "least", .str "most", .str "least", .str "most", .str "times", .str "by", .str "when", .str "leaf"])) p2 (.lst [.str "where", .str "where"])) p1 = _ := (upd_ne (ne_of_none e1 n2)).trans e1
    refine ⟨p1, p3, _, _, rfl, rfl, (upd_ne (ne_of_none e2 n3)).trans e2, upd_same, (by show 12 ≤ sizeLine; decide), fun p4 n4 => ?_⟩
    have hh4 := hh3.new (o := .lst [.str "sum", .str "less", .str "least", .str "most", .str "least", .str "most", .str "times", .str "by", .str "when", .str "leaf", .str "where", .str "where"]) n4
    have b4 : But a H _ := (((But.new (a := a) n1).trans (But.new n2)).trans (But.new n3)).trans (But.new (o := .lst [.str "sum", .str "less", .str "least", .str "most", .str "least", .str "most", .str "times", .str "by", .str "when", .str "leaf", .str "where", .str "where"]) n4)
    have ne4 := hh3.ne n4
    -- the word
    refine ⟨fun v H' => But a H H' ∧ HandAt H' a (k + 1) ∧ ∃ s : Str, v = .str s ∧ isW s ∧ (l = 0 → s = "leaf"), ?_, fun v H5 hv => ?_⟩
    · refine ⟨.int (l : Int), rfl, rfl, _, rfl, iteD (fun c => ?_) (fun c => ?_)⟩
      · exact ⟨b4, hh4.le (by omega), _, rfl, by unfold isW; simp, fun _ => rfl⟩
      · refine ⟨.ref a, rfl, .ref p4, rfl, a, p4, _, k, rfl, ne4.symm, upd_same, (by show 0 < 12; decide), (by show 12 ≤ 1000; decide), hh4, by omega, fun H5 v b5 hh5 hv => ⟨b4.trans b5, hh5, ?_⟩⟩
        have hl0 : l ≠ 0 := fun z => c (by rw [z]; rfl)
        have key : ∃ s : Str, v = .str s ∧ isW s := by
          have hv : v ∈ ([.str "sum", .str "less", .str "least", .str "most", .str "least", .str "most", .str "times", .str "by", .str "when", .str "leaf", .str "where", .str "where"] : List V) := hv
          simp only [List.mem_cons, List.not_mem_nil, or_false] at hv
          rcases hv with rfl | rfl | rfl | rfl | rfl | rfl | rfl | rfl | rfl | rfl | rfl | rfl
          all_goals exact ⟨_, rfl, by unfold isW; simp⟩
        obtain ⟨s, rfl, hs⟩ := key
        exact ⟨s, rfl, hs, fun z => absurd z hl0⟩
    obtain ⟨b5, hh5, sw, rfl, hw, hl0⟩ := hv
    refine ⟨.str sw, rfl, rfl, _, rfl, iteD (fun c => ?_) (fun c => ?_)⟩
    · refine ⟨.ref a, rfl, .int (many : Int), rfl, a, many, k + 1, rfl, hm1, hm2, hh5, by have := cost_ge l; omega, fun H6 v e b6 hh6 he ho hd => ?_⟩
      exact q _ _ e (b5.trans b6) (hh6.le (by have := cost_ge l; omega)) he ho (by omega)
    · have hsl : sw ≠ "leaf" := fun z => c (by rw [z])
      obtain ⟨l', rfl⟩ : ∃ l', l = l' + 1 := by
        cases l with
        | zero => exact absurd (hl0 rfl) hsl
        | succ l' => exact ⟨l', rfl⟩
      have hcost : cost (l' + 1) = 2 * cost l' + 20 := rfl
      have elev : V.int (((l' + 1 : Nat) : Int) - 1) = V.int (l' : Int) := by
        congr 1
        omega
      refine ⟨.ref a, rfl, .int (many : Int), rfl, .int ((l' + 1 : Nat) : Int), rfl, _, 1, rfl, rfl, .int 1, rfl, a, many, l', k + 1, (by show [V.ref a, V.int (many : Int), V.int (((l' + 1 : Nat) : Int) - 1), V.int 1] = _; rw [elev]), by omega, hm1, hm2, hh5, by omega, fun H6 x e1 b6 hh6 he1 ho1 hd1 => ?_⟩
      have b06 := b5.trans b6
      -- times
      refine ⟨.str sw, rfl, rfl, _, rfl, iteD (fun c => ?_) (fun ct => ?_)⟩
      · have c : sw = "times" := V.str.inj c
        subst c
        refine ⟨_, rfl, .ref a, rfl, a, 19, _, rfl, by decide, by decide, hh6, by omega, fun H7 r b7 hh7 r0 r1 => ⟨_, 9, rfl, rfl, x, rfl, (by show 3 ≤ sizeLine; decide), fun p np => ?_⟩⟩
        exact q _ _ (.times (r - 9) e1) ((b06.trans b7).trans (But.new np)) ((hh7.new np).le (by omega)) ⟨p, x, rfl, SqT.of upd_same, (he1.but b7 hh6).new np⟩ ⟨⟨by omega, by omega⟩, ho1⟩ (by show e1.dep + 1 ≤ _; omega)
      -- by
      refine ⟨.str sw, rfl, rfl, _, rfl, iteD (fun c => ?_) (fun cb => ?_)⟩
      · have c : sw = "by" := V.str.inj c
        subst c
        refine ⟨_, rfl, .ref a, rfl, a, 4, _, rfl, by decide, by decide, hh6, by omega, fun H7 r b7 hh7 r0 r1 => ⟨x, rfl, (by show 3 ≤ sizeLine; decide), fun p np => ?_⟩⟩
        refine q _ _ (.by r.toNat e1) ((b06.trans b7).trans (But.new np)) ((hh7.new np).le (by omega)) ⟨p, x, rfl, ?_, (he1.but b7 hh6).new np⟩ ⟨by omega, ho1⟩ (by show e1.dep + 1 ≤ _; omega)
        rw [Int.toNat_of_nonneg r0]
        exact SqT.of upd_same
      -- the other part
      refine ⟨.ref a, rfl, .int (many : Int), rfl, .int ((l' + 1 : Nat) : Int), rfl, _, 1, rfl, rfl, .int 1, rfl, a, many, l', k + 1 + cost l', (by show [V.ref a, V.int (many : Int), V.int (((l' + 1 : Nat) : Int) - 1), V.int 1] = _; rw [elev]), by omega, hm1, hm2, hh6, by omega, fun H7 y e2 b7 hh7 he2 ho2 hd2 => ?_⟩
      have b07 := b06.trans b7
      have he1 := he1.but b7 hh6
      -- when
      refine ⟨.str sw, rfl, rfl, _, rfl, iteD (fun c => ?_) (fun cw => ?_)⟩
      · have c : sw = "when" := V.str.inj c
        subst c
        refine ⟨_, rfl, .ref a, rfl, a, 4, _, rfl, by decide, by decide, hh7, by omega, fun H8 r b8 hh8 r0 r1 => ⟨.ref a, rfl, a, _, rfl, hh8, by omega, fun H9 cc b9 hh9 c0 c1 => ⟨x, rfl, y, rfl, (by show 5 ≤ sizeLine; decide), fun p np => ?_⟩⟩⟩
        refine q _ _ (.when r.toNat cc e1 e2) (((b07.trans b8).trans b9).trans (But.new np)) ((hh9.new np).le (by omega)) ⟨p, x, y, rfl, ?_, ((he1.but b8 hh7).but b9 hh8).new np, ((he2.but b8 hh7).but b9 hh8).new np⟩ ⟨by omega, ⟨c0, c1⟩, ho1, ho2⟩ (by show max e1.dep e2.dep + 1 ≤ _; omega)
        rw [Int.toNat_of_nonneg r0]
        exact SqT.of upd_same
      -- where
      refine ⟨.str sw, rfl, rfl, _, rfl, iteD (fun c => ?_) (fun cr => ?_)⟩
      · have c : sw = "where" := V.str.inj c
        subst c
        refine ⟨.ref a, rfl, .ref a, rfl, a, 1000, _, rfl, by decide, by decide, hh7, by omega, fun H8 r b8 hh8 r0 r1 => ⟨1, _, rfl, rfl, (by show 6 ≤ sizeLine; decide), fun p5 n5 => ?_⟩⟩
        have hh9 := hh8.new (o := .lst [.int 1, .int 250, .int 333, .int 500, .int 1000, .int (1 + r)]) n5
        refine ⟨a, p5, _, _, rfl, (hh8.ne n5).symm, upd_same, (by show 0 < 6; decide), (by show 6 ≤ 1000; decide), hh9, by omega, fun H10 v b10 hh10 hv => ?_⟩
        have key : ∃ cc : Int, v = .int cc ∧ 1 ≤ cc ∧ cc ≤ 1000 := by
          have hv : v ∈ ([.int 1, .int 250, .int 333, .int 500, .int 1000, .int (1 + r)] : List V) := hv
          simp only [List.mem_cons, List.not_mem_nil, or_false] at hv
          rcases hv with rfl | rfl | rfl | rfl | rfl | rfl
          all_goals exact ⟨_, rfl, by omega, by omega⟩
        obtain ⟨cc, rfl, c0, c1⟩ := key
        refine ⟨_, rfl, .ref a, rfl, .int (many : Int), rfl, a, many, _, rfl, by omega, by omega, hh10, by omega, fun H11 j b11 hh11 j0 j1 => ⟨_, rfl, x, rfl, y, rfl, (by show 5 ≤ sizeLine; decide), fun p np => ?_⟩⟩
        refine q _ _ (.whr j.toNat cc e1 e2) (((((b07.trans b8).trans (But.new n5)).trans b10).trans b11).trans (But.new np)) ((hh11.new np).le (by omega)) ⟨p, x, y, rfl, ?_, ((((he1.but b8 hh7).new n5).but b10 hh9).but b11 hh10).new np, ((((he2.but b8 hh7).new n5).but b10 hh9).but b11 hh10).new np⟩ ⟨by omega, ⟨c0, c1⟩, ho1, ho2⟩ (by show max e1.dep e2.dep + 1 ≤ _; omega)
        rw [Int.toNat_of_nonneg j0]
        exact SqT.of upd_same
      -- the others
      refine ⟨_, rfl, x, rfl, y, rfl, (by show 3 ≤ sizeLine; decide), fun p np => ?_⟩
      have key : ∃ o : W4, sw = wn o := by
        rcases hw with rfl | rfl | rfl | rfl | rfl | rfl | rfl | rfl | rfl
        · exact ⟨.sum, rfl⟩
        · exact ⟨.less, rfl⟩
        · exact ⟨.least, rfl⟩
        · exact ⟨.most, rfl⟩
        · exact absurd rfl ct
        · exact absurd rfl cb
        · exact absurd rfl cw
        · exact absurd rfl hsl
        · exact absurd rfl cr
      obtain ⟨o, rfl⟩ := key
      exact q _ _ (.two o e1 e2) (b07.trans (But.new np)) ((hh7.new np).le (by omega)) ⟨p, x, y, rfl, SqT.of upd_same, he1.new np, he2.new np⟩ ⟨ho1, ho2⟩ (by show max e1.dep e2.dep + 1 ≤ _; omega)
end
end NG

namespace NG
open PySem PySem.Spec PyProof.Rows L2
section
variable {P : Program} {w : World} {K : PySem.W.Frag} {mg : Str → Option Value} {base : Heap}
theorem ok_low {f : Addr} {fd : FuncData} (F : Fun K "_law_lowest" "_law_lowest" s_L_lowest f fd) (gF : mg "_law_lowest" = some (.ref f)) (b : Binds K fd ["_law_row"] []) (B : Bl mg) : Cal P w K mg base 1 "_law_lowest" (spLow K) := by
  refine ⟨f, fd, _, F.ok sc_L_lowest (fun vs H Q E h => ?_) (fun cdv A outer s H vs Q E hr h => ?_), gF, F.kp, b⟩
  · obtain ⟨_, _, _, rfl, _⟩ := h
    rfl
  · obtain ⟨p, ns, y, rfl, hp, hb, hl, hy, py, q⟩ := h
    refine ⟨_, (pss_cons (ps_set (i := 1) sc_L_lowest.nd rfl (.inr rfl) pe_int) (pss_cons (ps_for PassesOwn.never rfl (pi_list (pv 0)) (pg_name (i := 2) sc_L_lowest.nd rfl (.inl rfl)) (pss_one (ps_while PassesOwn.never (pt_cmpR op_ne (pv 2) pe_int (nomark _)) (pss_one (ps_asg (pe_tup (pa_cons (pv 2) (pa_cons (pe_op op_mod (pv 1) (pv 2)) pa_nil))) (pg_tup rfl (pgs_cons (pg_name (i := 1) sc_L_lowest.nd rfl (.inr rfl)) (pgs_cons (pg_name (i := 2) sc_L_lowest.nd rfl (.inl rfl)) pgs_nil)))))))) (pss_one (ps_ret (pe_tupleOf (by rfl) B.tuple (pe_lc (own := [("_law_number", 2)]) rfl sc_L_lowest.nd (pi_list (pv 0)) (blkOk_by (N := N_L_lowest) (sc := defScope s_L_lowest) (by decide +kernel)) (fun _ _ _ _ _ => pg_name (i := 2) sc_L_lowest.nd rfl (.inl rfl)) (fun _ _ _ _ _ => pts_nil) (fun _ _ _ _ _ => pe_op op_fdivW (pv 2) (pv 1)))))))), ?_⟩
    refine ⟨.ref p, rfl, p, rfl, ⟨_, SqL.of hp⟩, for_list (xs := ns.map V.int) (fun i σ H' => ∃ y2, σ = [some (.ref p), some (.int (gl (ns.take i) : Int)), y2] ∧ Same H H') ⟨none, rfl, Same.refl _⟩ ?_ ?_ ?_⟩
    · rintro i σ H' hi ⟨y2, rfl, sm⟩
      exact SqL.of (sm _ _ hp)
    · rintro i x σ H' hx ⟨y2, rfl, sm⟩
      rw [List.getElem?_map] at hx
      cases hn : ns[i]? with
      | none => rw [hn] at hx; cases hx
      | some z =>
        rw [hn] at hx
        have ex : V.int z = x := Option.some.inj hx
        subst ex
        have hz := hb z (List.mem_of_getElem? hn)
        refine ⟨fun m σ H' => ∃ u : Nat, σ = [some (.ref p), some (.int (u : Int)), some (.int (m : Int))] ∧ Nat.gcd u m = gl (ns.take (i + 1)) ∧ Same H H', ⟨z.toNat, gl (ns.take i), ?_, (gl_step hn).symm, sm⟩, ?_⟩
        · show [some (.ref p), some (.int _), some (.int z)] = [some (V.ref p), _, _]
          rw [Int.toNat_of_nonneg hz.1]
        · rintro m σ H' ⟨u, rfl, hg, sm⟩
          refine ⟨.int (m : Int), rfl, rfl, _, rfl, ?_⟩
          by_cases h0 : m = 0
          · subst h0
            refine iteFF rfl ?_
            rw [Nat.gcd_zero_right] at hg
            rw [hg]
            exact ⟨_, rfl, sm⟩
          · have hne : ¬ V.int (m : Int) = V.int 0 := fun z => h0 (by have := V.int.inj z; omega)
            refine iteTT (by rw [decide_eq_false hne]; rfl) ?_
            refine ⟨fun σ' H' => ∃ u : Nat, σ' = [some (.ref p), some (.int (m : Int)), some (.int ((u % m : Nat) : Int))] ∧ Nat.gcd u m = gl (ns.take (i + 1)) ∧ Same H H', ?_, ?_⟩
            · rintro σ' H' ⟨u, rfl, hg, sm⟩
              exact ⟨u % m, Nat.mod_lt _ (by omega), m, rfl, by rw [gcd_turn]; exact hg, sm⟩
            · refine ⟨.int (m : Int), rfl, .int (u : Int), rfl, .int (m : Int), rfl, u, m, rfl, rfl, (by show (0 : Int) < m; omega), (by show 2 ≤ sizeLine; decide), fun t nt => ?_⟩
              exact ⟨t, _, rfl, SqT.of upd_same, rfl, _, _, rfl, _, _, rfl, rfl, u, rfl, hg, sm.trans (same_new nt)⟩
    · rintro σ H1 ⟨y2, rfl, sm⟩
      rw [List.length_map, List.take_length]
      have hg := gl_pos hy py
      refine ⟨.ref p, rfl, p, rfl, ⟨_, SqL.of (sm _ _ hp)⟩, fun D nD => lc_list (xs := ns.map V.int) (fun i H' => Same H H' ∧ H' D = some (.lst (((ns.take i).map fun x => x / (gl ns : Int)).map V.int))) ⟨sm.trans (same_new nD), upd_same⟩ (fun i H' _ h => SqL.of (h.1 _ _ hp)) ?_ ?_⟩
      · rintro i x H' hx ⟨sm', hD⟩
        rw [List.getElem?_map] at hx
        cases hn : ns[i]? with
        | none => rw [hn] at hx; cases hx
        | some z =>
          rw [hn] at hx
          have ex : V.int z = x := Option.some.inj hx
          subst ex
          have hgs : gl ns ≤ z.toNat ∨ z = 0 := by
            have hz := hb z (List.mem_of_getElem? hn)
            by_cases h0 : z = 0
            · exact .inr h0
            · exact .inl (Nat.le_of_dvd (by omega) (gl_dvd (List.mem_of_getElem? hn)))
          have hgy : gl ns ≤ y.toNat := Nat.le_of_dvd (by omega) (gl_dvd hy)
          have hyb := hb y hy
          refine ⟨rfl, tYes_in ?_⟩
          refine ⟨.int z, rfl, .int (gl ns : Int), rfl, z, (gl ns : Int), rfl, rfl, wide_div (b := 100) (by omega) (by omega) (by decide) (by decide), _, hD, ?_, ?_, ?_⟩
          · rw [List.length_map, List.length_map, List.length_take]
            exact small1000 (by omega)
          · exact fun b' o e => by
              rw [upd_ne (ne_of_none (sm _ _ e) nD)]
              exact sm' _ _ e
          · rw [upd_same, List.take_add_one, hn, List.map_append, List.map_append]
            rfl
      · rintro H' ⟨sm', hD⟩
        rw [List.length_map, List.take_length] at hD
        refine .inl ⟨D, _, rfl, SqL.of hD, fun t nt => ?_⟩
        obtain ⟨k1, k2, k3⟩ := low_sh hb hl hy py
        exact q _ _ (low ns) (sm'.trans (same_new nt)) ⟨t, rfl, SqT.of upd_same, by unfold low; rw [List.length_map], k1, k2, k3⟩
theorem ok_shares {f : Addr} {fd : FuncData} (F : Fun K "_law_shares" "_law_shares" s_L_shares f fd) (gF : mg "_law_shares" = some (.ref f)) (b : Binds K fd ["_law_hand_here", "_law_many"] []) (B : Bl mg) (c_L_take : Cal P w K mg base 1 "_law_take" spTake) (c_L_of : Cal P w K mg base 2 "_law_of" (spOf K)) (c_L_lowest : Cal P w K mg base 1 "_law_lowest" (spLow K)) : Cal P w K mg base 3 "_law_shares" (spShares K) := by
  refine ⟨f, fd, _, F.ok sc_L_shares (fun vs H Q E h => ?_) (fun cdv A outer s H vs Q E hr h => ?_), gF, F.kp, b⟩
  · obtain ⟨_, _, _, rfl, _⟩ := h
    rfl
  · obtain ⟨a, many, n, rfl, hm1, hm2, hh, hn, q⟩ := h
    refine ⟨_, (pss_cons (ps_set (i := 2) sc_L_shares.nd rfl (.inl rfl) (pe_lst pa_nil)) (pss_cons (ps_for PassesOwn.never rfl (pi_range1 rfl B.range (pa_cons (pv 1) pa_nil)) (pg_name (i := 3) sc_L_shares.nd rfl (.inl rfl)) (pss_cons (ps_set (i := 4) sc_L_shares.nd rfl (.inl rfl) (pe_lst (pa_cons pe_int (pa_cons pe_int (pa_cons pe_int (pa_cons pe_int (pa_cons (pe_c c_L_take hr (by omega) (by rfl) (pa_cons (pv 0) (pa_cons pe_int pa_nil))) (pa_cons (pe_c c_L_take hr (by omega) (by rfl) (pa_cons (pv 0) (pa_cons pe_int pa_nil))) (pa_cons (pe_op op_add (pe_op op_pow pe_int pe_int) (pe_c c_L_take hr (by omega) (by rfl) (pa_cons (pv 0) (pa_cons pe_int pa_nil)))) pa_nil))))))))) (pss_one (ps_expr (pe_bm PySem.F.plainAttrs_list PySem.F.slot_list_append PySem.F.type_list_append mt_append (pv 2) (pa_cons (pe_c c_L_of hr (by omega) (by rfl) (pa_cons (pv 0) (pa_cons (pv 4) pa_nil))) pa_nil)))))) (C8.pss_cut (ps_if (pt_cmpR op_eq (pe_callB (cr_max rfl) (by rfl) B.max (by decide +kernel) (pa_cons (pv 2) pa_nil)) pe_int (nomark _)) (pss_one (ps_asg pe_int (pg_sub (pv 2) (pe_c c_L_take hr (by omega) (by rfl) (pa_cons (pv 0) (pa_cons (pv 1) pa_nil))) set_list))) pss_nil) (pss_one (ps_ret (pe_c c_L_lowest hr (by omega) (by rfl) (pa_cons (pv 2) pa_nil))))))), ?_⟩
    refine ⟨(by show 0 ≤ sizeLine; decide), fun l nl => ?_⟩
    have hla := hh.ne nl
    refine ⟨.int (many : Int), rfl, _, rfl, by omega, by omega, ?_⟩
    refine for_range (n := ((many : Int)).toNat) (fun i σ H' => ∃ y3 y4, ∃ ns : List Int, σ = [some (.ref a), some (.int (many : Int)), some (.ref l), y3, y4] ∧ But a H H' ∧ HandAt H' a (n + 4 * i) ∧ H' l = some (.lst (ns.map V.int)) ∧ ns.length = i ∧ ∀ x ∈ ns, 0 ≤ x ∧ x < 2 ^ 50) ⟨none, none, [], rfl, But.new nl, hh.new nl, upd_same, rfl, fun x h => by cases h⟩ ?_ ?_
    · rintro i σ H1 hi ⟨y3, y4, ns, rfl, b1, hh1, hl1, hlen, hb⟩
      have hi3 : i < 3 := by omega
      refine ⟨.ref a, rfl, a, 12, _, rfl, by decide, by decide, hh1, by omega, fun H2 r2 b2 hh2 r20 r21 => ?_⟩
      refine ⟨.ref a, rfl, a, 1001, _, rfl, by decide, by decide, hh2, by omega, fun H3 r3 b3 hh3 r30 r31 => ?_⟩
      refine ⟨10, 12, rfl, rfl, ⟨by decide, by decide, by decide⟩, .ref a, rfl, a, 9, _, rfl, by decide, by decide, hh3, by omega, fun H4 r4 b4 hh4 r40 r41 => ⟨_, _, rfl, rfl, (by show 7 ≤ sizeLine; decide), fun p np => ?_⟩⟩
      have hpa := hh4.ne np
      have e4 : H4 l = some (.lst (ns.map V.int)) := b4 _ _ hla (b3 _ _ hla (b2 _ _ hla hl1))
      have hpl : l ≠ p := ne_of_none e4 np
      have e5 : (upd H4 p (.lst [.int 0, .int 1, .int 1, .int 2, .int r2, .int r3, .int (10 ^ (12 : Int).toNat + r4)])) l = some (.lst (ns.map V.int)) := (upd_ne hpl).trans e4
      refine ⟨.ref l, rfl, .inl ⟨rfl, _, SqL.of e5⟩, .ref a, rfl, .ref p, rfl, a, p, _, _, rfl, hpa.symm, upd_same, (by show 0 < 7; decide), (by show 7 ≤ 1000; decide), hh4.new np, by omega, fun H6 v b6 hh6 hv => ?_⟩
      have key : ∃ c : Int, v = .int c ∧ 0 ≤ c ∧ c < 2 ^ 50 := by
        have hv : v ∈ ([.int 0, .int 1, .int 1, .int 2, .int r2, .int r3, .int (10 ^ 12 + r4)] : List V) := hv
        simp only [List.mem_cons, List.not_mem_nil, or_false] at hv
        rcases hv with rfl | rfl | rfl | rfl | rfl | rfl | rfl
        all_goals exact ⟨_, rfl, by omega, by omega⟩
      obtain ⟨c, rfl, c0, c1⟩ := key
      have e6 : H6 l = some (.lst (ns.map V.int)) := b6 _ _ hla e5
      refine ⟨l, _, _, rfl, rfl, e6, ?_, ?_⟩
      · rw [List.length_map]
        exact small1000 (by omega)
      · have bb : But a H H6 := ((((b1.trans b2).trans b3).trans b4).trans (But.new np)).trans b6
        refine ⟨_, _, ns ++ [c], rfl, fun b' o nb e => ?_, (hh6.put hla).le (by omega), ?_, ?_, ?_⟩
        · rw [upd_ne (ne_of_none e nl)]
          exact bb _ _ nb e
        · rw [upd_same, List.map_append]
          rfl
        · rw [List.length_append, hlen]
          rfl
        · intro x hx
          rcases List.mem_append.mp hx with hx | hx
          · exact hb x hx
          · rw [List.mem_singleton.mp hx]
            exact ⟨c0, c1⟩
    · rintro σ H1 ⟨y3, y4, ns, rfl, b1, hh1, hl1, hlen, hb⟩
      have hlen : ns.length = many := by omega
      have hh1 : HandAt H1 a (n + 12) := hh1.le (by omega)
      refine ⟨fun σ H' => ∃ y3 y4, ∃ ns : List Int, ∃ y : Int, σ = [some (.ref a), some (.int (many : Int)), some (.ref l), y3, y4] ∧ But a H H' ∧ HandAt H' a (n + 13) ∧ H' l = some (.lst (ns.map V.int)) ∧ ns.length = many ∧ (∀ x ∈ ns, 0 ≤ x ∧ x < 2 ^ 50) ∧ y ∈ ns ∧ 0 < y, ?_, ?_⟩
      · refine ⟨.ref l, rfl, l, ns, rfl, SqL.of hl1, by omega, fun m hm hmax => ⟨rfl, _, rfl, iteD (fun c => ?_) (fun c => ?_)⟩⟩
        · refine ⟨.ref l, rfl, .ref a, rfl, .int (many : Int), rfl, a, _, _, rfl, by omega, by omega, hh1, by omega, fun H2 r b2 hh2 r0 r1 => ?_⟩
          have e2 := b2 _ _ hla hl1
          refine ⟨l, _, r, _, rfl, rfl, e2, ixN_of r0 (by rw [List.length_map]; omega), ?_⟩
          have hj : r.toNat < ns.length := by omega
          refine ⟨_, _, ns.set r.toNat 1, 1, rfl, fun b' o nb e => ?_, hh2.put hla, ?_, ?_, fun x hx => ?_, ?_, by decide⟩
          · rw [upd_ne (ne_of_none e nl)]
            exact b2 _ _ nb (b1 _ _ nb e)
          · rw [upd_same, List.map_set]
          · rw [List.length_set]
            exact hlen
          · rcases List.mem_or_eq_of_mem_set hx with hx | rfl
            · exact hb x hx
            · exact ⟨by decide, by decide⟩
          · exact List.mem_iff_getElem.mpr ⟨r.toNat, by rw [List.length_set]; exact hj, List.getElem_set_self _⟩
        · have hm0 : m ≠ 0 := fun z => c (by rw [z])
          exact ⟨_, _, ns, m, rfl, b1, hh1.le (by omega), hl1, hlen, hb, hm, by have := hb m hm; omega⟩
      · rintro σ H2 ⟨y3, y4, ns, y, rfl, b2, hh2, hl2, hlen, hb, hy, py⟩
        refine ⟨.ref l, rfl, l, ns, y, rfl, hl2, hb, by omega, hy, py, fun H3 v ms sm hv => ?_⟩
        rw [hlen] at hv
        obtain ⟨g, sd, m, e, z1, z2, z3, z4⟩ := hh2
        exact q _ _ ms (b2.trans (But.of sm)) ⟨g, sd, m, sm _ _ e, z1, z2, z3, by omega⟩ hv
theorem ok_regs {f : Addr} {fd : FuncData} (F : Fun K "_law_registers" "_law_registers" s_L_registers f fd) (gF : mg "_law_registers" = some (.ref f)) (b : Binds K fd ["_law_hand_here"] []) (B : Bl mg) (c_L_figure : Cal P w K mg base 3 "_law_figure" spFigure) : Cal P w K mg base 4 "_law_registers" (spRegs K) := by
  refine ⟨f, fd, _, F.ok sc_L_registers (fun vs H Q E h => ?_) (fun cdv A outer s H vs Q E hr h => ?_), gF, F.kp, b⟩
  · obtain ⟨_, _, rfl, _⟩ := h
    rfl
  · obtain ⟨a, n, rfl, hh, hn, q⟩ := h
    refine ⟨_, (pss_one (ps_ret (pe_tupleOf (by rfl) B.tuple (pe_lc (own := [("_law_turn", 1)]) rfl sc_L_registers.nd (pi_range1 rfl B.range (pa_cons pe_int pa_nil)) (blkOk_by (N := N_L_registers) (sc := defScope s_L_registers) (by decide +kernel)) (fun _ _ _ _ _ => pg_name (i := 1) sc_L_registers.nd rfl (.inl rfl)) (fun _ _ _ _ _ => pts_nil) (fun _ _ _ _ _ => pe_c c_L_figure hr (by omega) (by rfl) (pa_cons (pv 0) pa_nil)))))), ?_⟩
    refine ⟨4, rfl, by decide, by decide, fun D nD => lc_range (n := (4 : Int).toNat) (fun i H' => ∃ rs : List Int, But a H H' ∧ HandAt H' a (n + 3 * i) ∧ H' D = some (.lst (rs.map V.int)) ∧ rs.length = i ∧ ∀ x ∈ rs, -1000 ≤ x ∧ x ≤ 1000) ⟨[], But.new nD, hh.new nD, upd_same, rfl, fun x h => by cases h⟩ ?_ ?_⟩
    · rintro i H1 hi ⟨rs, b1, hh1, hD, hlen, hb⟩
      have hi4 : i < 4 := hi
      have hDa := hh.ne nD
      refine ⟨rfl, tYes_in ?_⟩
      refine ⟨.ref a, rfl, a, _, rfl, hh1, by omega, fun H2 c b2 hh2 c0 c1 => ⟨_, b2 _ _ hDa hD, ?_, ?_⟩⟩
      · rw [List.length_map]
        exact small1000 (by omega)
      · refine ⟨rs ++ [c], fun b' o nb e => ?_, (hh2.put hDa).le (by omega), ?_, ?_, ?_⟩
        · rw [upd_ne (ne_of_none e nD)]
          exact b2 _ _ nb (b1 _ _ nb e)
        · rw [upd_same, List.map_append]
          rfl
        · rw [List.length_append, hlen]
          rfl
        · intro x hx
          rcases List.mem_append.mp hx with hx | hx
          · exact hb x hx
          · rw [List.mem_singleton.mp hx]
            exact ⟨c0, c1⟩
    · rintro H1 ⟨rs, b1, hh1, hD, hlen, hb⟩
      refine .inl ⟨D, _, rfl, SqL.of hD, fun t nt => ?_⟩
      exact q _ _ rs (b1.trans (But.new nt)) (hh1.new nt) ⟨t, rfl, SqT.of upd_same, hlen, hb⟩
end
end NG

namespace NG
open PySem PySem.Spec PyProof.Rows L2
def spWorthS (K : PySem.W.Frag) (n : Nat) : Sp := fun vs H Q _ => ∃ (v r s : V) (e : Ex) (many : Nat) (rs ss : List Int), vs = [v, r, s] ∧ ExAt K H e v ∧ ExOk many e ∧ e.dep ≤ n ∧ RegsAt K H rs r ∧ ShAt K H many ss s ∧ ∀ H', Same H H' → Q (.int (wo rs ss e)) H'
theorem wide1000 {z x : Int} (h1 : -1000 ≤ z) (h2 : z ≤ 1000) : CMul x z := .inr ⟨by omega, by omega⟩
section
variable {P : Program} {w : World} {K : PySem.W.Frag} {mg : Str → Option Value} {base : Heap}
theorem ok_Lworth {f : Addr} {fd : FuncData} (F : Fun K "_law_worth" "_law_worth" s_L_worth f fd) (gF : mg "_law_worth" = some (.ref f)) (b : Binds K fd ["_law_tree", "_law_regs", "_law_odds"] []) (B : Bl mg) : ∀ n, Cal P w K mg base (n + 1) "_law_worth" (spWorthS K n) := by
  intro n
  induction n with
  | zero =>
    refine cal_never F gF b fun vs H Q E h => ?_
    obtain ⟨_, _, _, e, _, _, _, _, _, _, hd, _⟩ := h
    cases e <;> (unfold Ex.dep at hd; omega)
  | succ n c_L_worth =>
  refine ⟨f, fd, _, F.ok sc_L_worth (fun vs H Q E h => ?_) (fun cdv A outer s H vs Q E hr h => ?_), gF, F.kp, b⟩
  · obtain ⟨_, _, _, _, _, _, _, rfl, _⟩ := h
    rfl
  · obtain ⟨v, _, _, e, many, rs, ss, rfl, he, ho, hd, hR0, hS0, q⟩ := h
    refine ⟨_, (pss_cons (ps_par (i := 3) (j := 4) rfl sc_L_worth.nd rfl rfl (by decide) rfl rfl (pa_cons (pe_ix ix_tup (pv 0) pe_int (fun _ _ => rfl)) (pa_cons (pe_callB (cr_sumT rfl) (by rfl) B.sum (by decide +kernel) (pa_cons (pv 2) pa_nil)) pa_nil)) (by rfl)) (pss_cons (ps_if (pt_cmpR op_in_seq (pv 3) (pe_tup (pa_cons pe_str (pa_cons pe_str pa_nil))) (by rfl)) (pss_one (ps_ret (pe_op op_mul (pv 4) (pe_cut (pe_ifExp (pt_cmpR op_eq (pv 3) pe_str (nomark _)) (pe_ix ix_tup (pv 0) pe_int (fun _ _ => rfl)) (pe_ix ix_tup (pv 1) (pe_ix ix_tup (pv 0) pe_int (fun _ _ => rfl)) (fun _ _ => rfl))))))) pss_nil) (pss_cons (ps_if (pt_cmpR op_eq (pv 3) pe_str (nomark _)) (pss_one (ps_ret (pe_op op_mul pe_int (pe_ix ix_tup (pv 2) (pe_ix ix_tup (pv 0) pe_int (fun _ _ => rfl)) (fun _ _ => rfl))))) pss_nil) (pss_cons (ps_setLc (i := 5) (own := [("_law_part", 6)]) rfl sc_L_worth.nd rfl rfl (sw_true rfl rfl rfl (by decide +kernel)) (pi_tup (pv 0)) (blkOk_by (N := N_L_worth) (sc := defScope s_L_worth) (by decide +kernel)) (fun _ _ _ _ _ => pg_name (i := 6) sc_L_worth.nd rfl (.inl rfl)) (fun _ _ _ _ _ => pts_one (pt_val (pe_callB (isiK K) (by rfl) B.isinstance (by decide +kernel) (pa_cons (pv 6) (pa_cons (pe_bltn (v := .ty "tuple") (by rfl) B.tuple (by decide +kernel) rfl) pa_nil))))) (fun _ _ _ _ _ => pe_c c_L_worth hr (by omega) (by rfl) (pa_cons (pv 6) (pa_cons (pv 1) (pa_cons (pv 2) pa_nil))))) (pss_cons (ps_if (pt_cmpR op_in_seq (pv 3) (pe_tup (pa_cons pe_str (pa_cons pe_str pa_nil))) (by rfl)) (pss_one (ps_ret (pe_op op_mul (pe_ix ix_list (pv 5) pe_int (fun _ _ => rfl)) (pe_cut (pe_ifExp (pt_cmpR op_eq (pv 3) pe_str (nomark _)) (pe_ix ix_tup (pv 0) pe_int (fun _ _ => rfl)) (pe_ix ix_tup (pv 1) (pe_ix ix_tup (pv 0) pe_int (fun _ _ => rfl)) (fun _ _ => rfl))))))) pss_nil) (pss_cons (ps_if (pt_cmpR op_eq (pv 3) pe_str (nomark _)) (pss_one (ps_ret (pe_ix ix_list (pv 5) (pe_callTy call_int1 (by rfl) B.int (by decide +kernel) (pa_cons (pe_cmpR op_ge (pe_ix ix_tup (pv 1) (pe_ix ix_tup (pv 0) pe_int (fun _ _ => rfl)) (fun _ _ => rfl)) (pe_ix ix_tup (pv 0) pe_int (fun _ _ => rfl)) (nomark _)) pa_nil)) (fun _ _ => rfl)))) pss_nil) (pss_cons (ps_if (pt_cmpR op_eq (pv 3) pe_str (nomark _)) (pss_one (ps_ret (pe_ix ix_list (pv 5) (pe_callTy call_int1 (by rfl) B.int (by decide +kernel) (pa_cons (pe_cmpR op_ge (pe_op op_mul pe_int (pe_ix ix_tup (pv 2) (pe_ix ix_tup (pv 0) pe_int (fun _ _ => rfl)) (fun _ _ => rfl))) (pe_op op_mul (pe_ix ix_tup (pv 0) pe_int (fun _ _ => rfl)) (pv 4)) (nomark _)) pa_nil)) (fun _ _ => rfl)))) pss_nil) (pss_cons (ps_if (pt_cmpR op_in_seq (pv 3) (pe_tup (pa_cons pe_str (pa_cons pe_str pa_nil))) (by rfl)) (pss_one (ps_ret (pe_op op_add (pe_ix ix_list (pv 5) pe_int (fun _ _ => rfl)) (pe_op op_mul (pe_ix ix_list (pv 5) pe_int (fun _ _ => rfl)) (pe_cut (pe_ifExp (pt_cmpR op_eq (pv 3) pe_str (nomark _)) pe_int (pe_un un_neg pe_int))))))) pss_nil) (pss_one (ps_ret (pe_ix ix_list (pe_callB cr_sorted (by rfl) B.sorted (by decide +kernel) (pa_cons (pv 5) pa_nil)) (pe_callTy call_int1 (by rfl) B.int (by decide +kernel) (pa_cons (pe_cmpR op_eq (pv 3) pe_str (nomark _)) pa_nil)) (fun _ _ => rfl)))))))))))), ?_⟩
    have two_le : 2 ≤ sizeLine := by decide
    have hR := hR0
    have hS := hS0
    obtain ⟨r, rfl, hr1, hr2, hr3⟩ := hR
    obtain ⟨t, rfl, ht1, ht2, ht3, ht4, ht5⟩ := hS
    have rb : ∀ i, i < 4 → -1000 ≤ rs.getD i 0 ∧ rs.getD i 0 ≤ 1000 := fun i hi => hr3 _ (getD_mem (by omega))
    obtain ⟨p, xs, rfl, hp, hl0, hits⟩ := he.rst
    refine ⟨.ref p, rfl, p, _, 0, _, rfl, rfl, hp, at_of (j := 0) rfl rfl, .ref t, rfl, t, ss, rfl, ht1, _, _, rfl, ?_⟩
    refine ⟨_, rfl, two_le, fun t1 n1 => ⟨t1, _, rfl, .inr (SqT.of upd_same), rfl, rfl, _, rfl, ?_⟩⟩
    have sm1 := same_new (o := .tup [.str "fig", .str "reg"]) n1
    generalize upd H t1 (.tup [.str "fig", .str "reg"]) = H1 at sm1
    have hp1 := same_sqt sm1 hp
    by_cases hleaf : e.kids = []
    · cases e with
      | fig c =>
        obtain ⟨p', e', hpc⟩ := he
        cases e'
        have hpc := same_sqt sm1 hpc
        refine iteTT rfl ⟨.int ss.sum, rfl, fun v H' => v = .int c ∧ H' = H1, ⟨_, rfl, rfl, _, rfl, iteTT rfl ⟨.ref p, rfl, p, _, 1, _, rfl, rfl, hpc, rfl, rfl, rfl⟩⟩, fun v H' hv => ?_⟩
        obtain ⟨rfl, rfl⟩ := hv
        refine ⟨_, _, rfl, rfl, .inl ⟨by omega, by omega⟩, ?_⟩
        have q1 := q _ sm1
        rw [show wo rs ss (.fig c) = ss.sum * c from Int.mul_comm _ _] at q1
        exact q1
      | reg i =>
        have o : i < 4 := ho
        obtain ⟨p', e', hpc⟩ := he
        cases e'
        have hpc := same_sqt sm1 hpc
        refine iteTT rfl ⟨.int ss.sum, rfl, fun v H' => v = .int (rs.getD i 0) ∧ H' = H1, ⟨_, rfl, rfl, _, rfl, iteFF rfl ⟨.ref r, rfl, .ref p, rfl, p, _, 1, _, rfl, rfl, hpc, rfl, r, _, _, _, rfl, rfl, same_sqt sm1 hr1, at_nth (by omega), rfl, rfl⟩⟩, fun v H' hv => ?_⟩
        obtain ⟨rfl, rfl⟩ := hv
        refine ⟨_, _, rfl, rfl, .inl ⟨by omega, by omega⟩, ?_⟩
        have q1 := q _ sm1
        rw [show wo rs ss (.reg i) = ss.sum * rs.getD i 0 from Int.mul_comm _ _] at q1
        exact q1
      | share j =>
        have o : j < many := ho
        obtain ⟨p', e', hpc⟩ := he
        cases e'
        have hpc := same_sqt sm1 hpc
        refine iteFF rfl ⟨_, rfl, rfl, _, rfl, iteTT rfl ⟨.ref t, rfl, .ref p, rfl, p, _, 1, _, rfl, rfl, hpc, rfl, t, _, _, _, rfl, rfl, same_sqt sm1 ht1, at_nth (by omega), _, _, rfl, rfl, .inl ⟨by decide, by decide⟩, q _ sm1⟩⟩
      | two o a b => cases hleaf
      | times f a => cases hleaf
      | «by» i a => cases hleaf
      | when i c a b => cases hleaf
      | whr i c a b => cases hleaf
    · have nn : inV (V.str (wordOf e)) [V.str "fig", V.str "reg"] = false ∧ decide (V.str (wordOf e) = V.str "share") = false := by
        cases e with
        | fig c => exact absurd rfl hleaf
        | reg c => exact absurd rfl hleaf
        | share c => exact absurd rfl hleaf
        | two o a b => cases o <;> exact ⟨rfl, rfl⟩
        | times f a => exact ⟨rfl, rfl⟩
        | «by» i a => exact ⟨rfl, rfl⟩
        | when i c a b => exact ⟨rfl, rfl⟩
        | whr i c a b => exact ⟨rfl, rfl⟩
      refine iteFF nn.1 ⟨_, rfl, rfl, _, rfl, iteFF nn.2 ?_⟩
      have hits1 : ItsAt K H1 (.str (wordOf e) :: xs) (.s (wordOf e) :: e.rest) := ⟨rfl, hits.imp sm1⟩
      have hlen5 : (Itm.s (wordOf e) :: e.rest).length ≤ 5 := by
        have := rest_len e
        rw [List.length_cons]
        omega
      have kI : ∀ l : List Itm, (kidsI l).length ≤ l.length := fun l => by
        induction l with
        | nil => exact Nat.le_refl _
        | cons t r ih => cases t <;> simp only [kidsI, List.length_cons] <;> omega
      refine ⟨.ref p, rfl, p, rfl, ⟨_, hp1⟩, fun D nD => lc_tup (xs := .str (wordOf e) :: xs) (fun i H' => Same H1 H' ∧ H' D = some (.lst (((kidsI ((Itm.s (wordOf e) :: e.rest).take i)).map (wo rs ss)).map V.int))) ⟨same_new nD, upd_same⟩ (fun i H' _ h => same_sqt h.1 hp1) ?_ ?_⟩
      · rintro i x H2 hx ⟨sm2, hD⟩
        obtain ⟨tm, htm, hit⟩ := (hits1.imp sm2).get hx
        obtain ⟨ty, tyx, kk⟩ := isi_item hit
        refine ⟨rfl, ?_⟩
        refine ⟨x, rfl, _, _, _, _, tm.isK, rfl, .ty _, tyx, kk, _, rfl, ?_⟩
        cases tm with
        | s z =>
          refine iteFF rfl ⟨sm2, ?_⟩
          rw [hD, kidsI_snoc htm]
          show _ = some (HO.lst (List.map V.int (List.map (wo rs ss) (kidsI (List.take i (Itm.s (wordOf e) :: e.rest)) ++ []))))
          rw [List.append_nil]
        | i z =>
          refine iteFF rfl ⟨sm2, ?_⟩
          rw [hD, kidsI_snoc htm]
          show _ = some (HO.lst (List.map V.int (List.map (wo rs ss) (kidsI (List.take i (Itm.s (wordOf e) :: e.rest)) ++ []))))
          rw [List.append_nil]
        | k k =>
          have hkm : k ∈ e.kids := by
            rw [← kidsI_rest]
            have := mem_kidsI (List.mem_of_getElem? htm)
            exact this
          have hkd := kids_dep e k hkm
          have smq : Same H H2 := sm1.trans sm2
          refine iteTT rfl ⟨x, rfl, .ref r, rfl, .ref t, rfl, x, _, _, k, many, rs, ss, rfl, hit, kids_ok e k ho hkm, by omega, hR0.imp fun _ _ q => same_sqt smq q, hS0.imp fun _ _ q => same_sqt smq q, fun H3 sm3 => ?_⟩
          have hD3 := sm3 _ _ hD
          have hkl := kI ((Itm.s (wordOf e) :: e.rest).take i)
          rw [List.length_take] at hkl
          refine ⟨_, hD3, ?_, fun b' o eb => ?_, ?_⟩
          · rw [List.length_map, List.length_map]
            exact small1000 (by omega)
          · rw [upd_ne (ne_of_none eb nD)]
            exact sm3 _ _ (sm2 _ _ eb)
          · rw [upd_same, kidsI_snoc htm, List.map_append, List.map_append]
            rfl
      · rintro H2 ⟨sm2, hD⟩
        have sm02 := sm1.trans sm2
        rw [hits1.len, List.take_length] at hD
        have hD : H2 D = some (.lst ((e.kids.map (wo rs ss)).map V.int)) := by
          rw [← kidsI_rest]
          exact hD
        clear hits1 nD hp1
        refine ⟨_, rfl, two_le, fun t3 n3 => ⟨t3, _, rfl, .inr (SqT.of upd_same), rfl, rfl, _, rfl, ?_⟩⟩
        have sm3 := same_new (o := .tup [.str "times", .str "by"]) n3
        have hD := sm3 _ _ hD
        have sm03 := sm02.trans sm3
        generalize upd H2 t3 (.tup [.str "times", .str "by"]) = H3 at sm03 hD
        clear sm3 sm02 sm2
        have hr3' := same_sqt sm03 hr1
        have ht3' := same_sqt sm03 ht1
        have sD := SqL.of (K := K) hD
        cases e with
        | fig c => exact absurd rfl hleaf
        | reg c => exact absurd rfl hleaf
        | share c => exact absurd rfl hleaf
        | times fa a =>
          obtain ⟨⟨o1, o2⟩, oa⟩ := ho
          obtain ⟨p', x', e', q', _⟩ := he
          cases e'
          have hpf := same_sqt sm03 q'
          refine iteTT rfl ⟨.ref D, rfl, D, _, 0, _, rfl, rfl, sD, rfl, fun v H' => v = .int fa ∧ H' = H3, ⟨_, rfl, rfl, _, rfl, iteTT rfl ⟨.ref p, rfl, p, _, 1, _, rfl, rfl, hpf, rfl, rfl, rfl⟩⟩, fun v H' hv => ?_⟩
          obtain ⟨rfl, rfl⟩ := hv
          refine ⟨_, _, rfl, rfl, wide1000 (by omega) (by omega), ?_⟩
          have q1 := q _ sm03
          rw [show wo rs ss (.times fa a) = wo rs ss a * fa from Int.mul_comm _ _] at q1
          exact q1
        | «by» i a =>
          obtain ⟨o1, oa⟩ := ho
          obtain ⟨p', x', e', q', _⟩ := he
          cases e'
          have hpf := same_sqt sm03 q'
          refine iteTT rfl ⟨.ref D, rfl, D, _, 0, _, rfl, rfl, sD, rfl, fun v H' => v = .int (rs.getD i 0) ∧ H' = H3, ⟨_, rfl, rfl, _, rfl, iteFF rfl ⟨.ref r, rfl, .ref p, rfl, p, _, 1, _, rfl, rfl, hpf, rfl, r, _, _, _, rfl, rfl, hr3', at_nth (by omega), rfl, rfl⟩⟩, fun v H' hv => ?_⟩
          obtain ⟨rfl, rfl⟩ := hv
          refine ⟨_, _, rfl, rfl, wide1000 (rb i o1).1 (rb i o1).2, ?_⟩
          have q1 := q _ sm03
          rw [show wo rs ss (.by i a) = wo rs ss a * rs.getD i 0 from Int.mul_comm _ _] at q1
          exact q1
        | when i c a b' =>
          obtain ⟨o1, _, oa, ob⟩ := ho
          obtain ⟨p', x', y', e', q', _⟩ := he
          cases e'
          have hpf := same_sqt sm03 q'
          refine iteFF rfl ⟨_, rfl, rfl, _, rfl, iteTT rfl ?_⟩
          refine ⟨.ref D, rfl, .ref r, rfl, .ref p, rfl, p, _, 1, _, rfl, rfl, hpf, rfl, r, _, _, _, rfl, rfl, hr3', at_nth (by omega), .ref p, rfl, p, _, 2, _, rfl, rfl, hpf, rfl, _, _, rfl, rfl, .inr ⟨_, rfl, D, _, _, .int (if rs.getD i 0 < c then wo rs ss a else wo rs ss b'), rfl, rfl, sD, ?_, q _ sm03⟩⟩
          by_cases hc : rs.getD i 0 < c
          · rw [if_pos hc, decide_eq_false (show ¬ c ≤ rs.getD i 0 by omega)]
            rfl
          · rw [if_neg hc, decide_eq_true (show c ≤ rs.getD i 0 by omega)]
            rfl
        | whr j c a b' =>
          obtain ⟨o1, o2, oa, ob⟩ := ho
          obtain ⟨p', x', y', e', q', _⟩ := he
          cases e'
          have hpf := same_sqt sm03 q'
          refine iteFF rfl ⟨_, rfl, rfl, _, rfl, iteFF rfl ⟨_, rfl, rfl, _, rfl, iteTT rfl ?_⟩⟩
          refine ⟨.ref D, rfl, .ref t, rfl, .ref p, rfl, p, _, 1, _, rfl, rfl, hpf, rfl, t, _, _, _, rfl, rfl, ht3', at_nth (by omega), _, _, rfl, rfl, .inl ⟨by decide, by decide⟩, .ref p, rfl, p, _, 2, _, rfl, rfl, hpf, rfl, _, rfl, _, _, rfl, rfl, .inl ⟨by omega, by omega⟩, _, _, rfl, rfl, .inr ⟨_, rfl, D, _, _, .int (if 1000 * ss.getD j 0 < c * ss.sum then wo rs ss a else wo rs ss b'), rfl, rfl, sD, ?_, q _ sm03⟩⟩
          by_cases hc : 1000 * ss.getD j 0 < c * ss.sum
          · rw [if_pos hc, decide_eq_false (show ¬ c * ss.sum ≤ 1000 * ss.getD j 0 by omega)]
            rfl
          · rw [if_neg hc, decide_eq_true (show c * ss.sum ≤ 1000 * ss.getD j 0 by omega)]
            rfl
        | two o a b' =>
          refine iteFF (by cases o <;> rfl) ⟨_, rfl, rfl, _, rfl, iteFF (wn_ne (by simp)) ⟨_, rfl, rfl, _, rfl, iteFF (wn_ne (by simp)) ?_⟩⟩
          refine ⟨_, rfl, two_le, fun t4 n4 => ⟨t4, _, rfl, .inr (SqT.of upd_same), rfl, rfl, _, rfl, ?_⟩⟩
          have sm4 := same_new (o := .tup [.str "sum", .str "less"]) n4
          have hD := sm4 _ _ hD
          have sm04 := sm03.trans sm4
          generalize upd H3 t4 (.tup [.str "sum", .str "less"]) = H4 at sm04 hD
          have sD := SqL.of (K := K) hD
          cases o with
          | sum =>
            refine iteTT rfl ⟨.ref D, rfl, D, _, 0, _, rfl, rfl, sD, rfl, .ref D, rfl, D, _, 1, _, rfl, rfl, sD, rfl, fun v H' => v = .int 1 ∧ H' = H4, ⟨_, rfl, rfl, _, rfl, iteTT rfl ⟨rfl, rfl⟩⟩, fun v H' hv => ?_⟩
            obtain ⟨rfl, rfl⟩ := hv
            refine ⟨_, _, rfl, rfl, wide1000 (by decide) (by decide), _, _, rfl, rfl, ?_⟩
            have q1 := q _ sm04
            rw [show wo rs ss (.two .sum a b') = wo rs ss a + wo rs ss b' * 1 by rw [Int.mul_one]; rfl] at q1
            exact q1
          | less =>
            refine iteTT rfl ⟨.ref D, rfl, D, _, 0, _, rfl, rfl, sD, rfl, .ref D, rfl, D, _, 1, _, rfl, rfl, sD, rfl, fun v H' => v = .int (-1) ∧ H' = H4, ⟨_, rfl, rfl, _, rfl, iteFF rfl ⟨_, rfl, rfl, rfl⟩⟩, fun v H' hv => ?_⟩
            obtain ⟨rfl, rfl⟩ := hv
            refine ⟨_, _, rfl, rfl, wide1000 (by decide) (by decide), _, _, rfl, rfl, ?_⟩
            have q1 := q _ sm04
            rw [show wo rs ss (.two .less a b') = wo rs ss a + wo rs ss b' * -1 by rw [Int.mul_neg_one, ← Int.sub_eq_add_neg]; rfl] at q1
            exact q1
          | least =>
            refine iteFF rfl ⟨.ref D, rfl, D, [wo rs ss a, wo rs ss b'], rfl, sD, (by show 2 < 64; decide), fun ns' ps hperm hpw nps => ?_⟩
            rw [sort2 hperm hpw]
            exact ⟨_, rfl, rfl, .inr ⟨_, rfl, ps, _, _, _, rfl, rfl, SqL.of upd_same, rfl, q _ (sm04.trans (same_new nps))⟩⟩
          | most =>
            refine iteFF rfl ⟨.ref D, rfl, D, [wo rs ss a, wo rs ss b'], rfl, sD, (by show 2 < 64; decide), fun ns' ps hperm hpw nps => ?_⟩
            rw [sort2 hperm hpw]
            exact ⟨_, rfl, rfl, .inr ⟨_, rfl, ps, _, _, _, rfl, rfl, SqL.of upd_same, rfl, q _ (sm04.trans (same_new nps))⟩⟩
end
end NG

namespace NG
open PySem PySem.Spec PyProof.Rows L2
section
variable {P : Program} {w : World} {K : PySem.W.Frag} {mg : Str → Option Value} {base : Heap}
theorem ok_words {f : Addr} {fd : FuncData} (F : Fun K "_law_words_in" "_law_words_in" s_L_words_in f fd) (gF : mg "_law_words_in" = some (.ref f)) (b : Binds K fd ["_law_tree", "_law_word"] []) (B : Bl mg) : ∀ n, n ≤ 6 → Cal P w K mg base (n + 1) "_law_words_in" (spWords K n) := by
  intro n
  induction n with
  | zero =>
    intro _
    refine cal_never F gF b fun vs H Q E h => ?_
    obtain ⟨_, _, e, _, _, _, _, hd, _⟩ := h
    cases e <;> (unfold Ex.dep at hd; omega)
  | succ n ih =>
  intro hn6
  have c_L_words_in := ih (by omega)
  refine ⟨f, fd, _, F.ok sc_L_words_in (fun vs H Q E h => ?_) (fun cdv A outer s H vs Q E hr h => ?_), gF, F.kp, b⟩
  · obtain ⟨_, _, _, _, rfl, _⟩ := h
    rfl
  · obtain ⟨v, x, e, many, rfl, he, ho, hd, hd6, q⟩ := h
    refine ⟨_, (pss_cons (ps_set (i := 2) sc_L_words_in.nd rfl (.inl rfl) (pe_cut (pe_ifExp (pt_cmpR op_eq (pe_ix ix_tup (pv 0) pe_int (fun _ _ => rfl)) (pv 1) (nomark _)) (pe_lst (pa_cons (pv 0) pa_nil)) (pe_lst pa_nil)))) (pss_cons (ps_for PassesOwn.never rfl (pi_tup (pe_slice sl_tup (pv 0) (po_some pe_int) po_none)) (pg_name (i := 3) sc_L_words_in.nd rfl (.inl rfl)) (pss_one (ps_if (pt_val (pe_callB call_isi (by rfl) B.isinstance (by decide +kernel) (pa_cons (pv 3) (pa_cons (pe_bltn (v := .ty "tuple") (by rfl) B.tuple (by decide +kernel) rfl) pa_nil)))) (pss_one (ps_expr (pe_bm PySem.F.plainAttrs_list PySem.F.slot_list_extend PySem.F.type_list_extend mt_extend (pv 2) (pa_cons (pe_c c_L_words_in hr (by omega) (by rfl) (pa_cons (pv 3) (pa_cons (pv 1) pa_nil))) pa_nil)))) pss_nil))) (pss_one (ps_ret (pv 2))))), ?_⟩
    obtain ⟨p, xs, rfl, hp, hl0, hits⟩ := he.rst
    have h3n : 3 ^ n ≤ 729 := Nat.le_trans (Nat.pow_le_pow_right (by decide) (show n ≤ 6 by omega)) (by decide)
    have h3p : 1 ≤ 3 ^ n := Nat.pow_pos (by decide)
    refine ⟨fun v H' => ∃ l us es, v = .ref l ∧ Same H H' ∧ H l = none ∧ H' l = some (.lst us) ∧ RowsAt K H' us es ∧ es.length ≤ 1 ∧ ∀ e' ∈ es, ExOk many e' ∧ wordOf e' = x ∧ e'.dep ≤ e.dep, ?_, fun v H1 hv => ?_⟩
    · refine ⟨.ref p, rfl, p, _, 0, _, rfl, rfl, hp, at_of (j := 0) rfl rfl, .str x, rfl, rfl, _, rfl, iteD (fun c => ?_) (fun c => ?_)⟩
      · refine ⟨.ref p, rfl, (by show 1 ≤ sizeLine; decide), fun l nl => ⟨l, [.ref p], [e], rfl, same_new nl, nl, upd_same, ⟨he.new nl, trivial⟩, Nat.le_refl _, fun e' h' => ?_⟩⟩
        rw [List.mem_singleton.mp h']
        exact ⟨ho, V.str.inj c, Nat.le_refl _⟩
      · exact ⟨(by show 0 ≤ sizeLine; decide), fun l nl => ⟨l, [], [], rfl, same_new nl, nl, upd_same, trivial, Nat.zero_le _, fun e' h' => by cases h'⟩⟩
    obtain ⟨l, us0, es0, rfl, sm1, nl, hl1, rows0, len0, all0⟩ := hv
    refine ⟨.ref p, rfl, 1, rfl, p, _, rfl, same_sqt sm1 hp, cut1w hl0, fun c nc => ?_⟩
    rw [cut1]
    have smc := same_new (o := .tup xs) nc
    have hc : (upd H1 c (.tup xs)) c = some (.tup xs) := upd_same
    have hl2 := smc _ _ hl1
    have rows2 := rows0.same smc
    have sm2 := sm1.trans smc
    have hcl : c ≠ l := fun z => by rw [z, hl1] at nc; cases nc
    generalize upd H1 c (.tup xs) = H2 at hc hl2 rows2 sm2
    refine ⟨c, rfl, ⟨_, SqT.of hc⟩, for_tup (xs := xs) (fun i σ H' => ∃ y3 us es, σ = [some (.ref p), some (.str x), some (.ref l), y3] ∧ Same H H' ∧ H' c = some (.tup xs) ∧ H' l = some (.lst us) ∧ RowsAt K H' us es ∧ es.length ≤ 1 + (kidsI (e.rest.take i)).length * 3 ^ n ∧ ∀ e' ∈ es, ExOk many e' ∧ wordOf e' = x ∧ e'.dep ≤ e.dep) ⟨none, us0, es0, rfl, sm2, hc, hl2, rows2, by show es0.length ≤ 1 + 0 * _; omega, all0⟩ ?_ ?_ ?_⟩
    · rintro i σ H' _ ⟨_, _, _, _, _, hc', _⟩
      exact SqT.of hc'
    · rintro i y σ H3 hy ⟨y3, us, es, rfl, sm3, hc3, hl3, rows3, len3, all3⟩
      obtain ⟨tm, htm, hit⟩ := (hits.imp sm3).get hy
      obtain ⟨ty, tyx, kk⟩ := isi_item hit
      refine ⟨y, rfl, _, _, _, _, tm.isK, rfl, .ty _, tyx, kk, _, rfl, ?_⟩
      have hkl : (kidsI (e.rest.take i)).length ≤ 2 := by
        have h1 : ∀ j, (kidsI (e.rest.take j)).length ≤ e.kids.length := fun j => by
          have h2 : kidsI (e.rest.take j ++ e.rest.drop j) = e.kids := by rw [List.take_append_drop, kidsI_rest]
          rw [kidsI_append] at h2
          rw [← h2, List.length_append]
          omega
        have h2 : e.kids.length ≤ 2 := by cases e <;> simp [Ex.kids]
        exact Nat.le_trans (h1 i) h2
      have hmm : (kidsI (e.rest.take i)).length * 3 ^ n ≤ 2 * 729 := Nat.mul_le_mul hkl h3n
      cases tm with
      | s z =>
        refine iteFF rfl ⟨_, us, es, rfl, sm3, hc3, hl3, rows3, ?_, all3⟩
        rw [kidsI_snoc htm, List.length_append]
        exact Nat.le_trans len3 (Nat.add_le_add_left (Nat.mul_le_mul_right _ (Nat.le_add_right _ _)) _)
      | i z =>
        refine iteFF rfl ⟨_, us, es, rfl, sm3, hc3, hl3, rows3, ?_, all3⟩
        rw [kidsI_snoc htm, List.length_append]
        exact Nat.le_trans len3 (Nat.add_le_add_left (Nat.mul_le_mul_right _ (Nat.le_add_right _ _)) _)
      | k k =>
        have hkm : k ∈ e.kids := by
          rw [← kidsI_rest]
          exact mem_kidsI (List.mem_of_getElem? htm)
        have hkd := kids_dep e k hkm
        refine iteTT rfl ⟨.ref l, rfl, .inl ⟨rfl, _, SqL.of hl3⟩, y, rfl, .str x, rfl, y, x, k, many, rfl, hit, kids_ok e k ho hkm, by omega, by omega, fun H4 l2 us2 es2 sm4 nl2 hl4 rows4 len4 all4 => ?_⟩
        have hll := sm4 _ _ hl3
        have ulen := rows3.len
        have ulen2 := rows4.len
        refine ⟨l, l2, us, us2, rfl, rfl, hll, hl4, (by rw [show sizeLine = 16777216 by decide]; omega), ?_⟩
        have smx : Same H (upd H4 l (.lst (us ++ us2))) := fun b' o eb => by
          rw [upd_ne (ne_of_none eb nl)]
          exact sm4 _ _ (sm3 _ _ eb)
        refine ⟨_, us ++ us2, es ++ es2, rfl, smx, ?_, upd_same, ?_, ?_, fun e' h' => ?_⟩
        · rw [upd_ne hcl]
          exact sm4 _ _ hc3
        · exact ((rows3.same sm4).imp fun _ _ q => put_sqt hll q).append (rows4.imp fun _ _ q => put_sqt hll q)
        · rw [List.length_append, kidsI_snoc htm, List.length_append]
          show es.length + es2.length ≤ 1 + ((kidsI (List.take i e.rest)).length + 1) * 3 ^ n
          rw [Nat.add_mul, Nat.one_mul]
          omega
        · rcases List.mem_append.mp h' with h' | h'
          · exact all3 _ h'
          · have := all4 _ h'
            exact ⟨this.1, this.2.1, by omega⟩
    · rintro σ H3 ⟨y3, us, es, rfl, sm3, hc3, hl3, rows3, len3, all3⟩
      rw [hits.len, List.take_length, kidsI_rest] at len3
      have h2 : e.kids.length ≤ 2 := by cases e <;> simp [Ex.kids]
      have hmm : e.kids.length * 3 ^ n ≤ 2 * 3 ^ n := Nat.mul_le_mul_right _ h2
      refine ⟨.ref l, rfl, q _ l us es sm3 nl hl3 rows3 ?_ all3⟩
      rw [Nat.pow_succ]
      omega
theorem ok_border {f : Addr} {fd : FuncData} (F : Fun K "_law_at_border" "_law_at_border" s_L_at_border f fd) (gF : mg "_law_at_border" = some (.ref f)) (b : Binds K fd ["_law_hand_here", "_law_tree", "_law_many"] []) (B : Bl mg) (c_L_take : Cal P w K mg base 1 "_law_take" spTake) (c_L_of : Cal P w K mg base 2 "_law_of" (spOf K)) (c_L_lowest : Cal P w K mg base 1 "_law_lowest" (spLow K)) (c_L_shares : Cal P w K mg base 3 "_law_shares" (spShares K)) (c_L_words_in : Cal P w K mg base 6 "_law_words_in" (spWords K 5)) : Cal P w K mg base 7 "_law_at_border" (spBorder K) := by
  refine ⟨f, fd, _, F.ok sc_L_at_border (fun vs H Q E h => ?_) (fun cdv A outer s H vs Q E hr h => ?_), gF, F.kp, b⟩
  · obtain ⟨_, _, _, _, _, rfl, _⟩ := h
    rfl
  · obtain ⟨a, v, e, many, n, rfl, he, ho, hd, hm2, hm3, hh, hn, q⟩ := h
    refine ⟨_, (pss_cons (ps_set (i := 3) sc_L_at_border.nd rfl (.inl rfl) (pe_c c_L_words_in hr (by omega) (by rfl) (pa_cons (pv 1) (pa_cons pe_str pa_nil)))) (pss_cons (ps_if (pt_cmpR (op_eqD hr.units) (pv 3) (pe_lst pa_nil) (nomark _)) (pss_one (ps_ret (pe_c c_L_shares hr (by omega) (by rfl) (pa_cons (pv 0) (pa_cons (pv 2) pa_nil))))) pss_nil) (pss_cons (ps_asg (pe_slice sl_tup (pe_c c_L_of hr (by omega) (by rfl) (pa_cons (pv 0) (pa_cons (pv 3) pa_nil))) po_none (po_some pe_int)) (pg_tup rfl (pgs_cons (pg_name (i := 4) sc_L_at_border.nd rfl (.inl rfl)) (pgs_cons (pg_name (i := 5) sc_L_at_border.nd rfl (.inl rfl)) (pgs_cons (pg_name (i := 6) sc_L_at_border.nd rfl (.inl rfl)) pgs_nil))))) (pss_cons (ps_set (i := 7) sc_L_at_border.nd rfl (.inl rfl) (pe_op op_sub pe_int (pv 6))) (pss_cons (ps_set (i := 8) sc_L_at_border.nd rfl (.inl rfl) (pe_c c_L_take hr (by omega) (by rfl) (pa_cons (pv 0) (pa_cons (pe_op op_add (pv 7) pe_int) pa_nil)))) (pss_cons (ps_set (i := 9) sc_L_at_border.nd rfl (.inl rfl) (pe_cut (pe_ifExp (pt_cmpR op_eq (pv 2) pe_int (nomark _)) (pe_lst (pa_cons (pv 8) (pa_cons (pe_op op_sub (pv 7) (pv 8)) pa_nil))) (pe_lst (pa_cons (pv 7) pa_nil))))) (pss_one (ps_ret (pe_c c_L_lowest hr (by omega) (by rfl) (pa_cons (pe_op op_cat (pe_op op_cat (pe_slice sl_list (pv 9) po_none (po_some (pv 5))) (pe_lst (pa_cons (pv 6) pa_nil))) (pe_slice sl_list (pv 9) (po_some (pv 5)) po_none)) pa_nil)))))))))), ?_⟩
    refine ⟨v, rfl, v, _, e, many, rfl, he, ho, hd, by omega, fun H1 l us es sm1 nl hl rows len all => ?_⟩
    have hla := hh.ne nl
    obtain ⟨hl0, ha0⟩ := hh.some
    have hh1 : HandAt H1 a n := by
      obtain ⟨g, sd, m, e0, z⟩ := hh
      exact ⟨g, sd, m, sm1 _ _ e0, z⟩
    have all40 : ∀ e' ∈ es, e'.dep ≤ 40 := fun e' h' => by have := (all e' h').2.2; omega
    refine ⟨.ref l, rfl, (by show 0 ≤ sizeLine; decide), fun l0 n0 => ?_⟩
    have sm2 := same_new (o := .lst []) n0
    have hl2 := sm2 _ _ hl
    have rows2 := rows.same sm2
    have b2 : But a H (upd H1 l0 (.lst [])) := But.of (sm1.trans sm2)
    have hh2 := hh1.new (o := .lst []) n0
    refine ⟨.list (es.map toD), .list [], .lst (SqL.of hl2) rows2.dps, .lst (SqL.of upd_same) .nil, shaped_rows all40, rfl, _, rfl, ?_⟩
    generalize upd H1 l0 (.lst []) = H2 at sm2 hl2 rows2 b2 hh2
    cases es with
    | nil =>
      refine iteTT rfl ⟨.ref a, rfl, .int (many : Int), rfl, a, many, n, rfl, by omega, hm3, hh2, by omega, fun H3 u ms b3 hh3 hs => ?_⟩
      exact q _ _ ms (b2.trans b3) hh3 hs
    | cons e0 er =>
      have ulen := rows2.len
      have len5 : (e0 :: er).length ≤ 243 := len
      refine iteFF rfl ⟨.ref a, rfl, .ref l, rfl, a, l, us, n, rfl, hla.symm, hl2, by rw [ulen]; simp, by omega, hh2, by omega, fun H3 u b3 hh3 hu => ?_⟩
      obtain ⟨e1, he1, xe1⟩ := rows2.mem hu
      obtain ⟨o1, w1, d1⟩ := all e1 he1
      obtain ⟨j, c, ea, eb, rfl⟩ := is_whr w1
      obtain ⟨oj, oc, _, _⟩ := o1
      obtain ⟨p, x, y, rfl, hp, _, _⟩ := xe1
      have hp3 := b3.sq hh2 hp
      refine ⟨3, rfl, p, _, rfl, hp3, (by show ¬ (0 = 0 ∧ 3 = 5); decide), fun t nt => ?_⟩
      have ht : (upd H3 t (.tup (cutV [V.str "where", V.int (j : Int), V.int c, x, y] none (some 3)))) t = some (.tup [V.str "where", V.int (j : Int), V.int c]) := upd_same
      have hh4 := hh3.new (o := .tup (cutV [V.str "where", V.int (j : Int), V.int c, x, y] none (some 3))) nt
      have b4 : But a H (upd H3 t (.tup (cutV [V.str "where", V.int (j : Int), V.int c, x, y] none (some 3)))) := (b2.trans b3).trans (But.new nt)
      generalize upd H3 t (.tup (cutV [V.str "where", V.int (j : Int), V.int c, x, y] none (some 3))) = H4 at ht hh4 b4
      refine ⟨t, _, rfl, SqT.of ht, rfl, _, _, rfl, _, _, rfl, _, _, rfl, rfl, ?_⟩
      refine ⟨.int c, rfl, _, _, rfl, rfl, ?_⟩
      refine ⟨.ref a, rfl, .int (1000 - c), rfl, _, _, rfl, rfl, a, _, _, rfl, by omega, by omega, hh4, by omega, fun H5 z b5 hh5 z0 z1 => ?_⟩
      have b05 := b4.trans b5
      refine ⟨fun v H' => ∃ (l2 : Addr) (ns : List Int), v = .ref l2 ∧ H5 l2 = none ∧ H' = upd H5 l2 (.lst (ns.map V.int)) ∧ ns.length + 1 = many ∧ ∀ k ∈ ns, 0 ≤ k ∧ k ≤ 1000, ?_, fun v H6 hv => ?_⟩
      · refine ⟨.int (many : Int), rfl, rfl, _, rfl, iteD (fun c3 => ?_) (fun c3 => ?_)⟩
        · have hm : many = 3 := by
            have := V.int.inj c3
            omega
          refine ⟨.int z, rfl, .int (1000 - c), rfl, .int z, rfl, _, _, rfl, rfl, (by show 2 ≤ sizeLine; decide), fun l2 nl2 => ⟨l2, [z, 1000 - c - z], rfl, nl2, rfl, by rw [hm]; rfl, fun k hk => ?_⟩⟩
          simp only [List.mem_cons, List.not_mem_nil, or_false] at hk
          omega
        · have hm : many = 2 := by
            have h3 : many ≠ 3 := fun z => c3 (by rw [z]; rfl)
            omega
          refine ⟨.int (1000 - c), rfl, (by show 1 ≤ sizeLine; decide), fun l2 nl2 => ⟨l2, [1000 - c], rfl, nl2, rfl, by rw [hm]; rfl, fun k hk => ?_⟩⟩
          simp only [List.mem_cons, List.not_mem_nil, or_false] at hk
          omega
      obtain ⟨l2, ns, rfl, nl2, rfl, nlen, nb⟩ := hv
      have hh6 := hh5.new (o := .lst (ns.map V.int)) nl2
      have hl6 : (upd H5 l2 (.lst (ns.map V.int))) l2 = some (.lst (ns.map V.int)) := upd_same
      have b06 := b05.trans (But.new (a := a) (o := .lst (ns.map V.int)) nl2)
      generalize upd H5 l2 (.lst (ns.map V.int)) = H6 at hh6 hl6 b06
      refine ⟨.ref l2, rfl, .int (j : Int), rfl, (j : Int), rfl, l2, _, rfl, SqL.of hl6, fun l3 nl3 => ?_⟩
      rw [cut_take]
      have h73 : (upd H6 l3 (.lst ((ns.map V.int).take j))) l3 = some (.lst ((ns.map V.int).take j)) := upd_same
      have h72 := same_new (o := .lst ((ns.map V.int).take j)) nl3 _ _ hl6
      have hh7 := hh6.new (o := .lst ((ns.map V.int).take j)) nl3
      have b07 := b06.trans (But.new (a := a) (o := .lst ((ns.map V.int).take j)) nl3)
      generalize upd H6 l3 (.lst ((ns.map V.int).take j)) = H7 at h73 h72 hh7 b07
      refine ⟨.int c, rfl, (by show 1 ≤ sizeLine; decide), fun l4 nl4 => ?_⟩
      have s8 := same_new (o := .lst [.int c]) nl4
      have h84 : (upd H7 l4 (.lst [.int c])) l4 = some (.lst [.int c]) := upd_same
      have h83 := s8 _ _ h73
      have h82 := s8 _ _ h72
      have hh8 := hh7.new (o := .lst [.int c]) nl4
      have b08 := b07.trans (But.new (a := a) (o := .lst [.int c]) nl4)
      generalize upd H7 l4 (.lst [.int c]) = H8 at h84 h83 h82 hh8 b08
      refine ⟨l3, l4, _, _, rfl, rfl, h83, h84, ?_, fun l5 nl5 => ?_⟩
      · rw [List.length_take, List.length_map]
        exact Nat.le_of_lt (small1000 (by show min j ns.length + 1 ≤ 1000; omega))
      have s9 := same_new (o := .lst ((ns.map V.int).take j ++ [.int c])) nl5
      have h95 : (upd H8 l5 (.lst ((ns.map V.int).take j ++ [.int c]))) l5 = some (.lst ((ns.map V.int).take j ++ [.int c])) := upd_same
      have h92 := s9 _ _ h82
      have hh9 := hh8.new (o := .lst ((ns.map V.int).take j ++ [.int c])) nl5
      have b09 := b08.trans (But.new (a := a) (o := .lst ((ns.map V.int).take j ++ [.int c])) nl5)
      generalize upd H8 l5 (.lst ((ns.map V.int).take j ++ [.int c])) = H9 at h95 h92 hh9 b09
      refine ⟨.ref l2, rfl, .int (j : Int), rfl, (j : Int), rfl, l2, _, rfl, SqL.of h92, fun l6 nl6 => ?_⟩
      rw [cut_drop]
      have s10 := same_new (o := .lst ((ns.map V.int).drop j)) nl6
      have h106 : (upd H9 l6 (.lst ((ns.map V.int).drop j))) l6 = some (.lst ((ns.map V.int).drop j)) := upd_same
      have h105 := s10 _ _ h95
      have hh10 := hh9.new (o := .lst ((ns.map V.int).drop j)) nl6
      have b010 := b09.trans (But.new (a := a) (o := .lst ((ns.map V.int).drop j)) nl6)
      generalize upd H9 l6 (.lst ((ns.map V.int).drop j)) = H10 at h106 h105 hh10 b010
      refine ⟨l5, l6, _, _, rfl, rfl, h105, h106, ?_, fun l7 nl7 => ?_⟩
      · rw [List.length_append, List.length_take, List.length_drop, List.length_map]
        exact Nat.le_of_lt (small1000 (by show min j ns.length + 1 + (ns.length - j) ≤ 1000; omega))
      have eq7 : (ns.map V.int).take j ++ [V.int c] ++ (ns.map V.int).drop j = (ns.take j ++ [c] ++ ns.drop j).map V.int := by
        rw [List.map_append, List.map_append, List.map_take, List.map_drop]
        rfl
      rw [eq7]
      have hlen7 : (ns.take j ++ [c] ++ ns.drop j).length = many := by
        rw [List.length_append, List.length_append, List.length_take, List.length_drop]
        show min j ns.length + 1 + (ns.length - j) = many
        omega
      have hh11 := hh10.new (o := .lst ((ns.take j ++ [c] ++ ns.drop j).map V.int)) nl7
      have b011 := b010.trans (But.new (a := a) (o := .lst ((ns.take j ++ [c] ++ ns.drop j).map V.int)) nl7)
      refine ⟨l7, ns.take j ++ [c] ++ ns.drop j, c, rfl, upd_same, fun k hk => ?_, by omega, by simp, by omega, fun H' u ms sm hs => ?_⟩
      · have hk2 : k ∈ ns ∨ k = c := by
          rcases List.mem_append.mp hk with hk | hk
          · rcases List.mem_append.mp hk with hk | hk
            · exact .inl (List.mem_of_mem_take hk)
            · exact .inr (List.mem_singleton.mp hk)
          · exact .inl (List.mem_of_mem_drop hk)
        rcases hk2 with hk | rfl
        · have := nb k hk
          omega
        · omega
      · rw [hlen7] at hs
        obtain ⟨g, sd, m, e9, z9⟩ := hh11
        exact q _ _ ms (b011.trans (But.of sm)) (HandAt.le ⟨g, sd, m, sm _ _ e9, z9⟩ (by omega)) hs
theorem ok_near {f : Addr} {fd : FuncData} (F : Fun K "_law_near" "_law_near" s_L_near f fd) (gF : mg "_law_near" = some (.ref f)) (b : Binds K fd ["_law_hand_here", "_law_tree"] []) (B : Bl mg) (c_L_take : Cal P w K mg base 1 "_law_take" spTake) (c_L_of : Cal P w K mg base 2 "_law_of" (spOf K)) (c_L_registers : Cal P w K mg base 4 "_law_registers" (spRegs K)) (c_L_words_in : Cal P w K mg base 6 "_law_words_in" (spWords K 5)) : Cal P w K mg base 7 "_law_near" (spNear K) := by
  refine ⟨f, fd, _, F.ok sc_L_near (fun vs H Q E h => ?_) (fun cdv A outer s H vs Q E hr h => ?_), gF, F.kp, b⟩
  · obtain ⟨_, _, _, _, _, rfl, _⟩ := h
    rfl
  · obtain ⟨a, v, e, many, n, rfl, he, ho, hd, hh, hn, q⟩ := h
    refine ⟨_, (pss_cons (ps_par (i := 2) (j := 3) rfl sc_L_near.nd rfl rfl (by decide) rfl rfl (pa_cons (pe_c c_L_words_in hr (by omega) (by rfl) (pa_cons (pv 1) (pa_cons pe_str pa_nil))) (pa_cons (pe_callTy call_list_of (by rfl) B.list (by decide +kernel) (pa_cons (pe_c c_L_registers hr (by omega) (by rfl) (pa_cons (pv 0) pa_nil)) pa_nil)) pa_nil)) (by rfl)) (C8.pss_cut (ps_if (PW.pt (pw_and (pt_cmpR (op_neD hr.units) (pv 2) (pe_lst pa_nil) (nomark _)) (pw_and1 (pt_cmpR op_eq (pe_c c_L_take hr (by omega) (by rfl) (pa_cons (pv 0) (pa_cons pe_int pa_nil))) pe_int (nomark _))))) (pss_cons (ps_asg (pe_slice sl_tup (pe_c c_L_of hr (by omega) (by rfl) (pa_cons (pv 0) (pa_cons (pv 2) pa_nil))) po_none (po_some pe_int)) (pg_tup rfl (pgs_cons (pg_name (i := 4) sc_L_near.nd rfl (.inl rfl)) (pgs_cons (pg_name (i := 5) sc_L_near.nd rfl (.inl rfl)) (pgs_cons (pg_name (i := 6) sc_L_near.nd rfl (.inl rfl)) pgs_nil))))) (pss_one (ps_asg (pe_callB (call_max2 rfl) (by rfl) B.max (by decide +kernel) (pa_cons (pe_un un_neg pe_int) (pa_cons (pe_op op_sub (pv 6) (pe_c c_L_take hr (by omega) (by rfl) (pa_cons (pv 0) (pa_cons pe_int pa_nil)))) pa_nil))) (pg_sub (pv 3) (pv 5) set_list)))) pss_nil) (pss_one (ps_ret (pe_tupleOf (by rfl) B.tuple (pv 3)))))), ?_⟩
    refine ⟨v, rfl, v, _, e, many, rfl, he, ho, hd, by omega, fun H1 l us es sm1 nl hl rows len all => ?_⟩
    have hla := hh.ne nl
    have hh1 : HandAt H1 a n := by
      obtain ⟨g, sd, m, e0, z⟩ := hh
      exact ⟨g, sd, m, sm1 _ _ e0, z⟩
    have all40 : ∀ e' ∈ es, e'.dep ≤ 40 := fun e' h' => by have := (all e' h').2.2; omega
    refine ⟨.ref a, rfl, a, n, rfl, hh1, by omega, fun H2 rv rs b2 hh2 hR => ?_⟩
    obtain ⟨pr, rfl, hr1, hr2, hr3⟩ := hR
    refine ⟨pr, _, rfl, .inr hr1, fun l2 nl2 => ⟨_, _, rfl, ?_⟩⟩
    have h2l := b2 _ _ hla hl
    have rows2 := rows.imp fun _ _ q => b2.sq hh1 q
    have hl2 : (upd H2 l2 (.lst (rs.map V.int))) l2 = some (.lst (rs.map V.int)) := upd_same
    have s3 := same_new (o := .lst (rs.map V.int)) nl2
    have h3l := s3 _ _ h2l
    have rows3 := rows2.same s3
    have hh3 := hh2.new (o := .lst (rs.map V.int)) nl2
    have b3 : But a H (upd H2 l2 (.lst (rs.map V.int))) := ((But.of sm1).trans b2).trans (But.new nl2)
    have fr2 : H l2 = none := by
      obtain ⟨l', ha'⟩ := hh.some
      obtain ⟨l'', ha''⟩ := hh2.some
      exact ((But.of sm1).trans b2).free ha' nl2 (by rw [ha'']; exact fun z => by cases z)
    have hl2a : l2 ≠ a := hh2.ne nl2
    generalize upd H2 l2 (.lst (rs.map V.int)) = H3 at hl2 h3l rows3 hh3 b3
    refine ⟨fun σ H' => ∃ y2 y4 y5 y6, ∃ rs : List Int, σ = [some (.ref a), some v, y2, some (.ref l2), y4, y5, y6] ∧ But a H H' ∧ HandAt H' a (n + 15) ∧ H' l2 = some (.lst (rs.map V.int)) ∧ rs.length = 4 ∧ ∀ x ∈ rs, -1000 ≤ x ∧ x ≤ 1000, ?_, ?_⟩
    · refine ⟨.ref l, rfl, (by show 0 ≤ sizeLine; decide), fun l0 n0 => ?_⟩
      have s4 := same_new (o := .lst []) n0
      have h4l := s4 _ _ h3l
      have hl4 := s4 _ _ hl2
      have rows4 := rows3.same s4
      have b4 : But a H (upd H3 l0 (.lst [])) := b3.trans (But.new n0)
      have hh4 := hh3.new (o := .lst []) n0
      refine ⟨.list (es.map toD), .list [], .lst (SqL.of h4l) rows4.dps, .lst (SqL.of upd_same) .nil, shaped_rows all40, rfl, _, rfl, ?_⟩
      generalize upd H3 l0 (.lst []) = H4 at s4 h4l hl4 rows4 b4 hh4
      cases es with
      | nil => exact iteFF rfl (iteFF rfl ⟨_, _, _, _, rs, rfl, b4, hh4.le (by omega), hl4, hr2, hr3⟩)
      | cons e0 er =>
        have ulen := rows4.len
        have len5 : (e0 :: er).length ≤ 243 := len
        refine iteTT rfl ⟨.ref a, rfl, a, 2, _, rfl, by decide, by decide, hh4, by omega, fun H5 z b5 hh5 z0 z1 => ⟨rfl, _, rfl, iteD (fun c => ?_) (fun c => ?_)⟩⟩
        · have h5l := b5 _ _ hla h4l
          have hl5 := b5 _ _ hl2a hl4
          have rows5 := rows4.imp fun _ _ q => b5.sq hh4 q
          refine ⟨.ref a, rfl, .ref l, rfl, a, l, us, _, rfl, hla.symm, h5l, by rw [ulen]; simp, by omega, hh5, by omega, fun H6 u b6 hh6 hu => ?_⟩
          obtain ⟨e1, he1, xe1⟩ := rows5.mem hu
          obtain ⟨o1, w1, d1⟩ := all e1 he1
          obtain ⟨j, c, ea, eb, rfl⟩ := is_when w1
          obtain ⟨oj, oc, _, _⟩ := o1
          obtain ⟨p, x, y, rfl, hp, _, _⟩ := xe1
          have hp6 := b6.sq hh5 hp
          have hl6 := b6 _ _ hl2a hl5
          refine ⟨3, rfl, p, _, rfl, hp6, (by show ¬ (0 = 0 ∧ 3 = 5); decide), fun t nt => ?_⟩
          have ht : (upd H6 t (.tup (cutV [V.str "when", V.int (j : Int), V.int c, x, y] none (some 3)))) t = some (.tup [V.str "when", V.int (j : Int), V.int c]) := upd_same
          have hh7 := hh6.new (o := .tup (cutV [V.str "when", V.int (j : Int), V.int c, x, y] none (some 3))) nt
          have hl7 := same_new (o := .tup (cutV [V.str "when", V.int (j : Int), V.int c, x, y] none (some 3))) nt _ _ hl6
          have b7 : But a H (upd H6 t (.tup (cutV [V.str "when", V.int (j : Int), V.int c, x, y] none (some 3)))) := ((b4.trans b5).trans b6).trans (But.new nt)
          generalize upd H6 t (.tup (cutV [V.str "when", V.int (j : Int), V.int c, x, y] none (some 3))) = H7 at ht hh7 hl7 b7
          refine ⟨t, _, rfl, SqT.of ht, rfl, _, _, rfl, _, _, rfl, _, _, rfl, rfl, ?_⟩
          refine ⟨_, rfl, .int c, rfl, .ref a, rfl, a, 2, _, rfl, by decide, by decide, hh7, by omega, fun H8 z8 b8 hh8 z80 z81 => ⟨_, _, rfl, rfl, _, _, rfl, ?_⟩⟩
          have hl8 := b8 _ _ hl2a hl7
          refine ⟨.ref l2, rfl, .int (j : Int), rfl, l2, _, _, _, rfl, rfl, hl8, ixN_of (by omega) (by rw [List.length_map]; omega), ?_⟩
          generalize hM : (if c - z8 > -1000 then c - z8 else -1000) = M
          have hM2 : -1000 ≤ M ∧ M ≤ 1000 := by
            rw [← hM]
            split <;> omega
          refine ⟨_, _, _, _, rs.set (j : Int).toNat M, rfl, fun b' o nb eb => ?_, (hh8.put hl2a).le (by omega), ?_, ?_, fun k hk => ?_⟩
          · rw [upd_ne (ne_of_none eb fr2)]
            exact b8 _ _ nb (b7 _ _ nb eb)
          · rw [upd_same, List.map_set]
          · rw [List.length_set]
            exact hr2
          · rcases List.mem_or_eq_of_mem_set hk with hk | rfl
            · exact hr3 k hk
            · exact hM2
        · exact ⟨_, _, _, _, rs, rfl, b4.trans b5, hh5.le (by omega), b5 _ _ hl2a hl4, hr2, hr3⟩
    · rintro σ H5 ⟨y2, y4, y5, y6, rs, rfl, b5, hh5, hl5, hr2, hr3⟩
      refine ⟨.ref l2, rfl, .inl ⟨l2, _, rfl, SqL.of hl5, fun t nt => ?_⟩⟩
      exact q _ _ rs (b5.trans (But.new nt)) (hh5.new nt) ⟨t, rfl, SqT.of upd_same, hr2, hr3⟩
end
end NG

namespace NG
open PySem PySem.Spec PyProof.Rows L2
theorem dp_ints {K : PySem.W.Frag} {H : Hp} : ∀ ns : List Int, DpAll K H (ns.map V.int) (ns.map PyData.int)
  | [] => .nil
  | n :: r => .cons (.int n) (dp_ints r)
theorem shw_ints : ∀ {ns : List Int}, (∀ x ∈ ns, x.natAbs < 2 ^ 600) → ShwAll (ns.map PyData.int) (602 * ns.length) 0
  | [], _ => ShwAll.nil
  | n :: r, h => by
    have h1 := Shw.int (h n (by simp))
    have h2 := shw_ints (ns := r) fun x hx => h x (List.mem_cons_of_mem _ hx)
    have h3 := ShwAll.cons h1 h2 (Nat.le_refl 0) (Nat.le_refl 0)
    refine ⟨h3.sh, h3.lf, Nat.le_trans h3.wt ?_, h3.dp⟩
    rw [List.length_cons]
    omega
theorem scaled {N : Nat} {lo hi S x : Int} (h1 : lo.natAbs ≤ N) (h2 : hi.natAbs ≤ N) (hS : 0 ≤ S) (h3 : lo * S ≤ x) (h4 : x ≤ hi * S) : x.natAbs ≤ N * S.natAbs := by
  have a1 : (-(N : Int)) * S ≤ lo * S := Int.mul_le_mul_of_nonneg_right (by omega) hS
  have a2 : hi * S ≤ (N : Int) * S := Int.mul_le_mul_of_nonneg_right (by omega) hS
  have e1 : (-(N : Int)) * S = -((N : Int) * S) := Int.neg_mul _ _
  have e2 : ((N : Int) * S).natAbs = N * S.natAbs := by rw [Int.natAbs_mul, Int.natAbs_natCast]
  rw [← e2]
  generalize (N : Int) * S = M at *
  omega
theorem wo_600 {many : Nat} {rs ss : List Int} {e : Ex} (ho : ExOk many e) (hd : e.dep ≤ 10) (hr : rs.length = 4) (hrb : ∀ x ∈ rs, -1000 ≤ x ∧ x ≤ 1000) (hs : ss.length = many) (hsb : ∀ x ∈ ss, 0 ≤ x ∧ x < 2 ^ 50) (h5 : ss.sum < 2 ^ 60) : (wo rs ss e).natAbs < 2 ^ 600 := by
  have hsb0 : ∀ x ∈ ss, 0 ≤ x := fun x hx => (hsb x hx).1
  have h1 := in_span hr hrb hs hsb0 e ho
  have hb := spn_bnd ho
  have b1 := Nat.le_of_lt (bnd_600 hd hb.1)
  have b2 := Nat.le_of_lt (bnd_600 hd hb.2)
  have hS := sum_nonneg hsb0
  have k := scaled b1 b2 hS h1.1 h1.2
  have k2 : ss.sum.natAbs ≤ 2 ^ 60 := by omega
  have k3 := Nat.mul_le_mul_left (2 ^ 300) k2
  have k4 : (2 : Nat) ^ 300 * 2 ^ 60 < 2 ^ 600 := by
    rw [← Nat.pow_add]
    exact Nat.pow_lt_pow_right (by decide) (by decide)
  exact Nat.lt_of_le_of_lt (Nat.le_trans k k3) k4
def AskOk (K : PySem.W.Frag) (H : Hp) (many : Nat) (v : V) : Prop := ∃ (p : Addr) (t r s : V) (e : Ex) (rs ss : List Int), v = .ref p ∧ SqT K H p [t, r, s] ∧ ExAt K H e t ∧ ExOk many e ∧ e.dep ≤ 5 ∧ RegsAt K H rs r ∧ ShAt K H many ss s
theorem AskOk.imp {K : PySem.W.Frag} {H H' : Hp} {many : Nat} {v : V} (x : AskOk K H many v) (h : ∀ p xs, SqT K H p xs → SqT K H' p xs) : AskOk K H' many v := by
  obtain ⟨p, t, r, s, e, rs, ss, e1, hp, he, ho, hd, hR, hS⟩ := x
  exact ⟨p, t, r, s, e, rs, ss, e1, h _ _ hp, he.imp h, ho, hd, hR.imp h, hS.imp h⟩
def spRight (K : PySem.W.Frag) : Sp := fun vs H Q _ => ∃ (v : V) (many : Nat), vs = [v] ∧ many ≤ 3 ∧ AskOk K H many v ∧ ∀ H', Same H H' → Q (.bl true) H'
section
variable {P : Program} {w : World} {K : PySem.W.Frag} {mg : Str → Option Value} {base : Heap}
theorem ok_right {f : Addr} {fd : FuncData} (F : Fun K "_law_right" "_law_right" s_L_right f fd) (gF : mg "_law_right" = some (.ref f)) (b : Binds K fd ["_law_asked"] []) (B : Bl mg) (c_L_worth : Cal P w K mg base 6 "_law_worth" (spWorthS K 5)) (c_worth : Cal P w K mg base 7 "worth" (spWorth K 5)) (k_worth : CalK P w K mg base 7 "worth" ["shares", "registers", "expression"] (spWorth K 5)) : CalG P w K mg base 8 "_law_right" (spRight K) := by
  refine ⟨f, fd, _, fnG F sc_L_right (fun vs H Q E h => ?_) (fun cdv A outer s H vs Q hg hr h => ?_), gF, F.kp, b⟩
  · obtain ⟨_, _, rfl, _⟩ := h
    rfl
  · obtain ⟨v, many, rfl, hm, ⟨p, t, r, s', e, rs, ss, rfl, hp, he, ho, hd, hR, hS⟩, q⟩ := h
    refine ⟨_, (pss_cons (ps_asg (pv 0) (pg_tup rfl (pgs_cons (pg_name (i := 1) sc_L_right.nd rfl (.inl rfl)) (pgs_cons (pg_name (i := 2) sc_L_right.nd rfl (.inl rfl)) (pgs_cons (pg_name (i := 3) sc_L_right.nd rfl (.inl rfl)) pgs_nil))))) (pss_cons (ps_par (i := 4) (j := 5) rfl sc_L_right.nd rfl rfl (by decide) rfl rfl (pa_cons (pe_callB (cr_repr hg hr.units) (by rfl) B.repr (by decide +kernel) (pa_cons (pv 0) pa_nil)) (pa_cons (pe_c c_L_worth hr (by omega) (by rfl) (pa_cons (pv 1) (pa_cons (pv 2) (pa_cons (pv 3) pa_nil)))) pa_nil)) (by rfl)) (pss_cons (ps_set (i := 6) sc_L_right.nd rfl (.inl rfl) (pe_c c_worth hr (by omega) (by rfl) (pa_cons (pv 1) (pa_cons (pv 2) (pa_cons (pv 3) pa_nil))))) (pss_cons (ps_set (i := 7) sc_L_right.nd rfl (.inl rfl) (pe_kw k_worth hg hr (by omega) (by rfl) (pk_cons (pv 3) (pk_cons (pv 2) (pk_cons (pv 1) pk_nil))))) (pss_one (ps_ret (pe_and (pe_cmpR op_eq (pe_callB (cr_repr hg hr.units) (by rfl) B.repr (by decide +kernel) (pa_cons (pe_lst (pa_cons (pv 6) (pa_cons (pv 7) pa_nil))) pa_nil)) (pe_callB (cr_repr hg hr.units) (by rfl) B.repr (by decide +kernel) (pa_cons (pe_lst (pa_cons (pv 5) (pa_cons (pv 5) pa_nil))) pa_nil)) (nomark _)) (pe_one (pe_cmpR op_eq (pe_callB (cr_repr hg hr.units) (by rfl) B.repr (by decide +kernel) (pa_cons (pv 0) pa_nil)) (pv 4) (nomark _)))))))))), ?_⟩
    have two_le : 2 ≤ sizeLine := by decide
    have hR1 := hR
    have hS1 := hS
    obtain ⟨pr, rfl, r1, r2, r3⟩ := hR1
    obtain ⟨ps, rfl, s1, s2, s3, s4, s5⟩ := hS1
    have big : ∀ x : Int, x.natAbs < 2 ^ 60 → x.natAbs < 2 ^ 600 := fun x h => Nat.lt_of_lt_of_le h (Nat.pow_le_pow_right (by decide) (by decide))
    have wE := shw_ex (many := many) (by omega) ho
    have wR := (shw_ints (ns := rs) fun x hx => big x (by have := r3 x hx; omega)).tup
    have wS := (shw_ints (ns := ss) fun x hx => big x (by have := s3 x hx; omega)).tup
    have wA : Shw (.tuple [toD e, .tuple (rs.map PyData.int), .tuple (ss.map PyData.int)]) 20000 60 := by
      refine (ShwAll.tup (ShwAll.cons wE (ShwAll.cons wR (ShwAll.cons wS (ShwAll.nil (k := 0)) (k := 20) (by decide) (by decide)) (by decide) (Nat.le_refl 20)) (by omega) (Nat.le_refl 20))).mono ?_ (by decide)
      have h1 : wgt e.dep ≤ 1860 := Nat.le_trans (wgt_mono hd) (by decide)
      omega
    have dpA : ∀ {H' : Hp}, Same H H' → Dp K H' (.ref p) (.tuple [toD e, .tuple (rs.map PyData.int), .tuple (ss.map PyData.int)]) := fun sm =>
      .tup (same_sqt sm hp) (.cons (he.same sm).dp (.cons (.tup (same_sqt sm r1) (dp_ints rs)) (.cons (.tup (same_sqt sm s1) (dp_ints ss)) .nil)))
    have fA := wA.fits (Nat.le_refl _)
    have w6 := wo_600 ho (by omega) r2 r3 s2 s3 s5
    have wW : Shw (.list [.int (wo rs ss e), .int (wo rs ss e)]) 20000 60 := (ShwAll.lst (.cons (.int w6) (.cons (.int w6) .nil (Nat.le_refl 0) (Nat.le_refl 0)) (Nat.le_refl 0) (Nat.le_refl 0))).mono (by decide) (by decide)
    have fW := wW.fits (Nat.le_refl _)
    refine ⟨.ref p, rfl, p, _, rfl, hp, rfl, _, _, rfl, _, _, rfl, _, _, rfl, rfl, ?_⟩
    refine ⟨.ref p, rfl, p, _, rfl, dpA (Same.refl _), wA.sh, wA.dp, fA, t, rfl, .ref pr, rfl, .ref ps, rfl, t, _, _, e, many, rs, ss, rfl, he, ho, hd, hR, hS, fun H1 sm1 => ⟨_, _, rfl, ?_⟩⟩
    have he1 := he.same sm1
    have hR1 := hR.imp fun _ _ q => same_sqt sm1 q
    have hS1 := hS.imp fun _ _ q => same_sqt sm1 q
    refine ⟨t, rfl, .ref pr, rfl, .ref ps, rfl, t, _, _, e, many, rs, ss, rfl, he1, ho, hd, hR1, hS1, ?_⟩
    refine ⟨.ref ps, rfl, .ref pr, rfl, t, rfl, rfl, t, .ref pr, .ref ps, e, many, rs, ss, rfl, he1, ho, hd, hR1, hS1, ?_⟩
    refine ⟨_, rfl, _, rfl, two_le, fun l1 n1 => ⟨l1, _, rfl, .lst (SqL.of upd_same) (.cons (.int _) (.cons (.int _) .nil)), wW.sh, wW.dp, fW, _, rfl, _, rfl, two_le, fun l2 n2 => ⟨l2, _, rfl, .lst (SqL.of upd_same) (.cons (.int _) (.cons (.int _) .nil)), wW.sh, wW.dp, fW, rfl, _, rfl, iteTT (decide_eq_true rfl) ?_⟩⟩⟩
    have sm2 := sm1.trans ((same_new (o := .lst [.int (wo rs ss e), .int (wo rs ss e)]) n1).trans (same_new (o := .lst [.int (wo rs ss e), .int (wo rs ss e)]) n2))
    refine ⟨.ref p, rfl, p, _, rfl, dpA sm2, wA.sh, wA.dp, fA, _, rfl, rfl, ?_⟩
    rw [decide_eq_true rfl]
    exact q _ sm2
def spLaw (K : PySem.W.Frag) : Sp := fun vs H Q _ => ∃ (a : Addr) (ns : List Int), vs = [.ref a] ∧ SqL K H a (ns.map V.int) ∧ ns.length ≤ 63 ∧ ∀ H', Q (.bl true) H'
theorem ok_law {f : Addr} {fd : FuncData} (F : Fun K "law" "law" s_law f fd) (B : Bl mg) (c_L_hand : Cal P w K mg base 1 "_law_hand" (spHand K)) (c_L_take : Cal P w K mg base 1 "_law_take" spTake) (c_L_expression : Cal P w K mg base 9 "_law_expression" (spExpr K 5)) (c_L_shares : Cal P w K mg base 3 "_law_shares" (spShares K)) (c_L_at_border : Cal P w K mg base 7 "_law_at_border" (spBorder K)) (c_L_near : Cal P w K mg base 7 "_law_near" (spNear K)) (c_L_right : CalG P w K mg base 8 "_law_right" (spRight K)) : FnG P w K mg base 10 f fd ["_law_script"] (spLaw K) := by
  refine fnG F sc_law (fun vs H Q E h => ?_) (fun cdv A outer s H vs Q hg hr h => ?_)
  · obtain ⟨_, _, rfl, _⟩ := h
    rfl
  · obtain ⟨sc, ns, rfl, hS, hl, q⟩ := h
    refine ⟨_, (pss_cons (ps_for PassesOwn.never rfl (pi_range1 rfl B.range (pa_cons (pe_op op_add pe_int (pe_callB (call_min2 rfl) (by rfl) B.min (by decide +kernel) (pa_cons pe_int (pa_cons (pe_callB call_len_seq (by rfl) B.len PySem.boot_len (pa_cons (pv 0) pa_nil)) pa_nil)))) pa_nil)) (pg_name (i := 1) sc_law.nd rfl (.inl rfl)) (pss_cons (ps_asg (pe_tup (pa_cons (pe_c c_L_hand hr (by omega) (by rfl) (pa_cons (pv 0) (pa_cons (pv 1) pa_nil))) (pa_cons (pe_lst pa_nil) pa_nil))) (pg_tup rfl (pgs_cons (pg_name (i := 2) sc_law.nd rfl (.inr rfl)) (pgs_cons (pg_name (i := 3) sc_law.nd rfl (.inl rfl)) pgs_nil)))) (pss_cons (ps_set (i := 4) sc_law.nd rfl (.inr rfl) (pe_op op_add pe_int (pe_c c_L_take hr (by omega) (by rfl) (pa_cons (pv 2) (pa_cons pe_int pa_nil))))) (pss_cons (ps_setLc (i := 5) (own := [("_law_turn", 6)]) rfl sc_law.nd rfl rfl (sw_true rfl rfl rfl (by decide +kernel)) (pi_range1 rfl B.range (pa_cons pe_int pa_nil)) (blkOk_by (N := N_law) (sc := defScope s_law) (by decide +kernel)) (fun _ _ _ _ _ => pg_name (i := 6) sc_law.nd rfl (.inl rfl)) (fun _ _ _ _ _ => pts_nil) (fun _ _ _ _ _ => pe_c c_L_expression hr (by omega) (by rfl) (pa_cons (pv 2) (pa_cons (pv 4) (pa_cons (pe_op op_add pe_int (pe_c c_L_take hr (by omega) (by rfl) (pa_cons (pv 2) (pa_cons pe_int pa_nil)))) (pa_cons pe_int pa_nil)))))) (pss_cons (ps_for PassesOwn.never rfl (pi_range1 rfl B.range (pa_cons pe_int pa_nil)) (pg_name (i := 6) sc_law.nd rfl (.inl rfl)) (pss_one (ps_for PassesOwn.never rfl (pi_list (pv 5)) (pg_name (i := 7) sc_law.nd rfl (.inl rfl)) (pss_cons (ps_set (i := 8) sc_law.nd rfl (.inl rfl) (pe_cut (pe_ifExp (pt_cmpR op_eq (pe_op op_mod (pv 6) pe_int) pe_int (nomark _)) (pe_c c_L_at_border hr (by omega) (by rfl) (pa_cons (pv 2) (pa_cons (pv 7) (pa_cons (pv 4) pa_nil)))) (pe_c c_L_shares hr (by omega) (by rfl) (pa_cons (pv 2) (pa_cons (pv 4) pa_nil)))))) (pss_one (ps_expr (pe_bm PySem.F.plainAttrs_list PySem.F.slot_list_append PySem.F.type_list_append mt_append (pv 3) (pa_cons (pe_tup (pa_cons (pv 7) (pa_cons (pe_c c_L_near hr (by omega) (by rfl) (pa_cons (pv 2) (pa_cons (pv 7) pa_nil))) (pa_cons (pv 8) pa_nil)))) pa_nil)))))))) (pss_one (ps_if (pt_not (pt_val (pe_callB (cr_all rfl) (by rfl) B.all (by decide +kernel) (pa_cons (pe_lc (own := [("_law_asked", 9)]) rfl sc_law.nd (pi_list (pe_op op_cat (pv 3) (pe_revL (pv 3) (pe_un un_neg pe_int)))) (blkOk_by (N := N_law) (sc := defScope s_law) (by decide +kernel)) (fun _ _ _ _ _ => pg_name (i := 9) sc_law.nd rfl (.inl rfl)) (fun _ _ _ _ _ => pts_nil) (fun _ _ _ _ _ => pe_g c_L_right hg hr (by omega) (by rfl) (pa_cons (pv 9) pa_nil))) pa_nil)))) (pss_one (ps_ret pe_bl)) pss_nil))))))) (pss_one (ps_ret pe_bl))), ?_⟩
    refine ⟨.ref sc, rfl, sc, _, rfl, .inl hS, _, _, rfl, _, _, rfl, rfl, _, rfl, ?_⟩
    have hb : ∀ z : Int, (if z < 3 then z else 3) ≤ 3 := fun z => by split <;> omega
    have hb0 : ∀ z : Int, 0 ≤ z → 0 ≤ (if z < 3 then z else 3) := fun z hz => by split <;> omega
    have h3 := hb (((ns.map V.int).length : Nat) : Int)
    have h4 := hb0 (((ns.map V.int).length : Nat) : Int) (by omega)
    refine ⟨by omega, by omega, ?_⟩
    refine for_range (fun i σ H' => ∃ y1 y2 y3 y4 y5 y6 y7 y8 y9, σ = [some (.ref sc), y1, y2, y3, y4, y5, y6, y7, y8, y9] ∧ SqL K H' sc (ns.map V.int)) ⟨none, none, none, none, none, none, none, none, none, rfl, hS⟩ ?_ ?_
    · rintro i σ H1 hi ⟨y1, y2, y3, y4, y5, y6, y7, y8, y9, rfl, hS1⟩
      have hi4 : i < 4 := by omega
      refine ⟨.ref sc, rfl, .int (0 + (i : Int)), rfl, sc, _, ns, rfl, by omega, by omega, hS1, fun p g sd np g0 sd0 => ⟨(by show 0 ≤ sizeLine; decide), fun l nl => ⟨(by show 2 ≤ sizeLine; decide), fun t nt => ?_⟩⟩⟩
      have hh1 : HandAt (upd H1 p (.lst [.int g, .int sd, .int 0])) p 0 := ⟨g, sd, 0, upd_same, g0, sd0, by decide, by decide⟩
      have smp : Same H1 (upd H1 p (.lst [.int g, .int sd, .int 0])) := same_new np
      have fl : H1 l = none := smp.free nl
      have hlp : l ≠ p := hh1.ne nl
      have hh2 := hh1.new (o := .lst []) nl
      have hl2 : (upd (upd H1 p (.lst [.int g, .int sd, .int 0])) l (.lst [])) l = some (.lst []) := upd_same
      have sm2 := smp.trans (same_new (o := .lst []) nl)
      have s3 := same_new (o := .tup [.ref p, .ref l]) nt
      have hh3 := hh2.new (o := .tup [.ref p, .ref l]) nt
      have hl3 := s3 _ _ hl2
      have ht3 : (upd (upd (upd H1 p (.lst [.int g, .int sd, .int 0])) l (.lst [])) t (.tup [.ref p, .ref l])) t = some (.tup [.ref p, .ref l]) := upd_same
      have sm3 := sm2.trans s3
      clear s3 sm2 hl2 hh2
      generalize upd (upd (upd H1 p (.lst [.int g, .int sd, .int 0])) l (.lst [])) t (.tup [.ref p, .ref l]) = H3 at hh3 hl3 ht3 sm3
      refine ⟨t, _, rfl, SqT.of ht3, rfl, _, _, rfl, _, _, rfl, rfl, ?_⟩
      refine ⟨.ref p, rfl, p, 2, 0, rfl, by decide, by decide, hh3, by decide, fun H4 r b4 hh4 r0 r1 => ⟨_, _, rfl, rfl, ?_⟩⟩
      obtain ⟨r, rfl⟩ : ∃ r' : Nat, r = (r' : Int) := ⟨r.toNat, by omega⟩
      have hr2 : r < 2 := by omega
      have hl4 := b4 _ _ hlp hl3
      have keep : ∀ {Ha Hb : Hp}, Same H1 Ha → But p Ha Hb → Same H1 Hb := fun sa bb b' o eb => bb _ _ (ne_of_none eb np) (sa _ _ eb)
      have sm4 := keep sm3 b4
      refine ⟨2, rfl, by decide, by decide, fun D nD => lc_range (n := (2 : Int).toNat) (fun j H' => ∃ us es, But p H4 H' ∧ HandAt H' p (1 + 500 * j) ∧ H' D = some (.lst us) ∧ RowsAt K H' us es ∧ es.length = j ∧ ∀ e ∈ es, ExOk (2 + r) e ∧ e.dep ≤ 5) ⟨[], [], But.new nD, hh4.new nD, upd_same, trivial, rfl, fun x h => by cases h⟩ ?_ ?_⟩
      · rintro j H5 hj ⟨us, es, b5, hh5, hD, hrow, hel, hes⟩
        have hj : j < 2 := hj
        have hDp : D ≠ p := hh4.ne nD
        refine ⟨rfl, tYes_in ?_⟩
        refine ⟨.ref p, rfl, .int ((2 + r : Nat) : Int), rfl, .ref p, rfl, p, 4, _, rfl, by decide, by decide, hh5, by omega, fun H6 lz b6 hh6 lz0 lz1 => ⟨_, _, rfl, rfl, ?_⟩⟩
        obtain ⟨lv, rfl⟩ : ∃ l' : Nat, lz = (l' : Int) := ⟨lz.toNat, by omega⟩
        have hcl : cost (1 + lv) ≤ 400 := by
          have : lv = 0 ∨ lv = 1 ∨ lv = 2 ∨ lv = 3 := by omega
          rcases this with rfl | rfl | rfl | rfl <;> decide
        refine ⟨p, 2 + r, 1 + lv, _, rfl, by omega, by omega, by omega, hh6, by omega, fun H7 v e b7 hh7 he ho hd => ?_⟩
        have hD7 := b7 _ _ hDp (b6 _ _ hDp hD)
        have hlen := hrow.len
        refine ⟨us, hD7, small1000 (by omega), us ++ [v], es ++ [e], fun b' o nb eb => ?_, (hh7.le (by omega)).put hDp, upd_same, RowsAt.snoc (he.imp fun _ _ q => put_sqt hD7 q) (((hrow.imp fun _ _ q => b6.sq hh5 q).imp fun _ _ q => b7.sq hh6 q).imp fun _ _ q => put_sqt hD7 q), by rw [List.length_append, hel]; rfl, fun e' he' => ?_⟩
        · rw [upd_ne (ne_of_none eb nD)]
          exact b7 _ _ nb (b6 _ _ nb (b5 _ _ nb eb))
        · rcases List.mem_append.mp he' with h | h
          · exact hes _ h
          · rw [List.mem_singleton.mp h]
            exact ⟨ho, by omega⟩
      rintro H5 ⟨us, es, b5, hh5, hD, hrow, hel, hes⟩
      have hDp : D ≠ p := hh4.ne nD
      have hDl : D ≠ l := fun z => by rw [z, hl4] at nD; cases nD
      have sm5 := keep sm4 b5
      have hl5 := b5 _ _ hlp hl4
      have ulen := hrow.len
      have hel : es.length = 2 := hel
      refine ⟨5, rfl, by decide, by decide, ?_⟩
      refine for_range (n := (5 : Int).toNat) (fun tn σ H' => ∃ y6 y7 y8 as, σ = [some (.ref sc), some (.int (0 + (i : Int))), some (.ref p), some (.ref l), some (.int ((2 + r : Nat) : Int)), some (.ref D), y6, y7, y8, y9] ∧ Same H1 H' ∧ HandAt H' p (1001 + 100 * tn) ∧ H' D = some (.lst us) ∧ RowsAt K H' us es ∧ H' l = some (.lst as) ∧ as.length = 2 * tn ∧ ∀ v ∈ as, AskOk K H' (2 + r) v) ⟨_, _, _, [], rfl, sm5, hh5, hD, hrow, hl5, rfl, fun v h => by cases h⟩ ?_ ?_
      · rintro tn σ H6 htn ⟨z6, z7, z8, as, rfl, sm6, hh6, hD6, rows6, hl6, alen, aall⟩
        have htn : tn < 5 := htn
        refine ⟨.ref D, rfl, D, rfl, ⟨_, SqL.of hD6⟩, for_list (xs := us) (fun k σ H' => ∃ y7 y8 as, σ = [some (.ref sc), some (.int (0 + (i : Int))), some (.ref p), some (.ref l), some (.int ((2 + r : Nat) : Int)), some (.ref D), some (.int (0 + (tn : Int))), y7, y8, y9] ∧ Same H1 H' ∧ HandAt H' p (1001 + 100 * tn + 40 * k) ∧ H' D = some (.lst us) ∧ RowsAt K H' us es ∧ H' l = some (.lst as) ∧ as.length = 2 * tn + k ∧ ∀ v ∈ as, AskOk K H' (2 + r) v) ⟨_, _, as, rfl, sm6, hh6, hD6, rows6, hl6, alen, aall⟩ ?_ ?_ ?_⟩
        · rintro k σ H' _ ⟨_, _, _, _, _, _, hD', _⟩
          exact SqL.of hD'
        · rintro k u σ H7 hk ⟨w7, w8, as, rfl, sm7, hh7, hD7, rows7, hl7, alen, aall⟩
          have hk2 : k < 2 := by
            have := (List.getElem?_eq_some_iff.mp hk).1
            omega
          obtain ⟨e, hke, xe⟩ := rows7.get' hk
          obtain ⟨oe, de⟩ := hes e (List.mem_of_getElem? hke)
          refine ⟨fun v H' => But p H7 H' ∧ HandAt H' p (1001 + 100 * tn + 40 * k + 20) ∧ ∃ ms, ShAt K H' (2 + r) ms v, ?_, fun v H8 hv => ?_⟩
          · refine ⟨.int (0 + (tn : Int)), rfl, _, 2, rfl, rfl, (by show (0 : Int) < 2; decide), rfl, _, rfl, iteD (fun c => ?_) (fun c => ?_)⟩
            · exact ⟨.ref p, rfl, u, rfl, _, rfl, p, u, e, 2 + r, _, rfl, xe, oe, de, by omega, by omega, hh7, by omega, fun H8 v ms b8 hh8 hs => ⟨b8, hh8, ms, hs⟩⟩
            · exact ⟨.ref p, rfl, _, rfl, p, 2 + r, _, rfl, by omega, by omega, hh7, by omega, fun H8 v ms b8 hh8 hs => ⟨b8, hh8, ms, hs⟩⟩
          obtain ⟨b8, hh8, ms, hs⟩ := hv
          have hl8 := b8 _ _ hlp hl7
          have xe8 := xe.but b8 hh7
          refine ⟨.ref l, rfl, .inl ⟨rfl, _, SqL.of hl8⟩, u, rfl, .ref p, rfl, u, rfl, p, u, e, 2 + r, _, rfl, xe8, oe, de, hh8, by omega, fun H9 rv rs b9 hh9 hR => ⟨v, rfl, (by show 3 ≤ sizeLine; decide), fun t10 n10 => ?_⟩⟩
          have s10 := same_new (o := .tup [u, rv, v]) n10
          have b79 := b8.trans b9
          have hl9 := b9 _ _ hlp hl8
          have hD9 := b79 _ _ hDp hD7
          have sq79 : ∀ q xs, SqT K H7 q xs → SqT K H9 q xs := fun _ _ h => b9.sq hh8 (b8.sq hh7 h)
          have hl10 := s10 _ _ hl9
          have hD10 := s10 _ _ hD9
          have rows10 := (rows7.imp sq79).same s10
          have aall10 : ∀ v ∈ as, AskOk K _ (2 + r) v := fun v hv => ((aall v hv).imp sq79).imp fun _ _ q => same_sqt s10 q
          have hh10 := hh9.new (o := .tup [u, rv, v]) n10
          have new10 : AskOk K (upd H9 t10 (.tup [u, rv, v])) (2 + r) (.ref t10) := ⟨t10, u, rv, v, e, rs, ms, rfl, SqT.of upd_same, ((xe.imp sq79).same s10), oe, de, hR.imp fun _ _ q => same_sqt s10 q, (hs.imp fun _ _ q => b9.sq hh8 q).imp fun _ _ q => same_sqt s10 q⟩
          have sm10 := (keep sm7 b79).trans s10
          clear s10
          generalize upd H9 t10 (.tup [u, rv, v]) = H10 at hl10 hD10 rows10 aall10 hh10 new10 sm10
          refine ⟨l, as, _, rfl, rfl, hl10, small1000 (by omega), ?_⟩
          refine ⟨_, _, as ++ [.ref t10], rfl, fun b' o eb => ?_, (hh10.put hlp).le (by omega), ?_, rows10.imp fun _ _ q => put_sqt hl10 q, upd_same, by rw [List.length_append, alen]; rfl, fun v' hv' => ?_⟩
          · rw [upd_ne (ne_of_none eb fl)]
            exact sm10 _ _ eb
          · rw [upd_ne hDl]
            exact hD10
          · rcases List.mem_append.mp hv' with h | h
            · exact (aall10 _ h).imp fun _ _ q => put_sqt hl10 q
            · rw [List.mem_singleton.mp h]
              exact new10.imp fun _ _ q => put_sqt hl10 q
        · rintro σ H7 ⟨w7, w8, as, rfl, sm7, hh7, hD7, rows7, hl7, alen, aall⟩
          exact ⟨_, _, _, as, rfl, sm7, hh7.le (by omega), hD7, rows7, hl7, by omega, aall⟩
      · rintro σ H6 ⟨z6, z7, z8, as, rfl, sm6, hh6, hD6, rows6, hl6, alen, aall⟩
        have alen : as.length = 10 := alen
        refine ⟨.ref l, rfl, .ref l, rfl, _, rfl, rfl, l, _, rfl, SqL.of hl6, fun l7 n7 => ?_⟩
        have s7 := same_new (o := .lst as.reverse) n7
        have hl7 := s7 _ _ hl6
        have h77 : (upd H6 l7 (.lst as.reverse)) l7 = some (.lst as.reverse) := upd_same
        have aall7 : ∀ v ∈ as, AskOk K (upd H6 l7 (.lst as.reverse)) (2 + r) v := fun v hv => (aall v hv).imp fun _ _ q => same_sqt s7 q
        have sm7 := sm6.trans s7
        show _
        generalize upd H6 l7 (.lst as.reverse) = H7 at hl7 h77 aall7 sm7
        refine ⟨l, l7, as, as.reverse, rfl, rfl, hl7, h77, Nat.le_of_lt (small1000 (by rw [List.length_reverse]; omega)), fun l8 n8 => ?_⟩
        have s8 := same_new (o := .lst (as ++ as.reverse)) n8
        have h88 : (upd H7 l8 (.lst (as ++ as.reverse))) l8 = some (.lst (as ++ as.reverse)) := upd_same
        have aall8 : ∀ v ∈ as ++ as.reverse, AskOk K (upd H7 l8 (.lst (as ++ as.reverse))) (2 + r) v := fun v hv => by
          have hv2 : v ∈ as := by
            rcases List.mem_append.mp hv with h | h
            · exact h
            · exact List.mem_reverse.mp h
          exact (aall7 v hv2).imp fun _ _ q => same_sqt s8 q
        have sm8 := sm7.trans s8
        have len8 : (as ++ as.reverse).length = 20 := by rw [List.length_append, List.length_reverse]; omega
        generalize upd H7 l8 (.lst (as ++ as.reverse)) = H8 at h88 aall8 sm8
        refine ⟨l8, rfl, ⟨_, SqL.of h88⟩, fun D2 nD2 => lc_list (xs := as ++ as.reverse) (fun j H' => Same H8 H' ∧ H' D2 = some (.lst ((List.replicate j true).map V.bl))) ⟨same_new nD2, upd_same⟩ (fun j H' _ h => SqL.of (h.1 _ _ h88)) ?_ ?_⟩
        · rintro j x Hj hx ⟨smj, hDj⟩
          have hj20 : j < 20 := by
            have := (List.getElem?_eq_some_iff.mp hx).1
            omega
          have ax := aall8 x (List.mem_of_getElem? hx)
          refine ⟨rfl, tYes_in ?_⟩
          refine ⟨x, rfl, x, 2 + r, rfl, by omega, ax.imp fun _ _ q => same_sqt smj q, fun Hk smk => ?_⟩
          have hDk := smk _ _ hDj
          refine ⟨_, hDk, ?_, fun b' o eb => ?_, ?_⟩
          · rw [List.length_map, List.length_replicate]
            exact small1000 (by omega)
          · rw [upd_ne (ne_of_none eb nD2)]
            exact smk _ _ (smj _ _ eb)
          · rw [upd_same, List.replicate_succ', List.map_append]
            rfl
        · rintro Hj ⟨smj, hDj⟩
          rw [len8] at hDj
          refine ⟨D2, List.replicate 20 true, rfl, SqL.of hDj, _, rfl, iteFF rfl ?_⟩
          exact ⟨_, _, _, _, _, _, _, _, _, rfl, (sm8.trans smj).seq hS1⟩
    · rintro σ H1 ⟨y1, y2, y3, y4, y5, y6, y7, y8, y9, rfl, hS1⟩
      exact q _
end
end NG

namespace NG
open PySem PySem.Spec PyProof.Rows L2
theorem all_mk {l : PySem.W.OpenLaw} {w : World} {K : PySem.W.Frag} {h : Heap} {mg : Str → Option Value} {fa f_led_part f_side_part f_join_worths f_worth f_L_hand f_L_take f_L_of f_L_figure f_L_leaf f_L_expression f_L_lowest f_L_shares f_L_registers f_L_worth f_L_words_in f_L_at_border f_L_near f_L_right f_law : Addr} (X : K.In h) (G : h.Ns mainGlobals mg) (hfa : mg "law" = some (.ref fa))
    {od_led_part an_led_part od_side_part an_side_part od_join_worths an_join_worths od_worth an_worth od_L_hand an_L_hand od_L_take an_L_take od_L_of an_L_of od_L_figure an_L_figure od_L_leaf an_L_leaf od_L_expression an_L_expression od_L_lowest an_L_lowest od_L_shares an_L_shares od_L_registers an_L_registers od_L_worth an_L_worth od_L_words_in an_L_words_in od_L_at_border an_L_at_border od_L_near an_L_near od_L_right an_L_right od_law an_law : Option Addr} {sl_led_part sl_side_part sl_join_worths sl_worth sl_L_hand sl_L_take sl_L_of sl_L_figure sl_L_leaf sl_L_expression sl_L_lowest sl_L_shares sl_L_registers sl_L_worth sl_L_words_in sl_L_at_border sl_L_near sl_L_right sl_law : Array (Option Value)} {oc_led_part kV_led_part dc_led_part pm_led_part cd_led_part ct_led_part oc_side_part kV_side_part dc_side_part pm_side_part cd_side_part ct_side_part oc_join_worths kV_join_worths dc_join_worths pm_join_worths cd_join_worths ct_join_worths oc_worth kV_worth dc_worth pm_worth cd_worth ct_worth oc_L_hand kV_L_hand dc_L_hand pm_L_hand cd_L_hand ct_L_hand oc_L_take kV_L_take dc_L_take pm_L_take cd_L_take ct_L_take oc_L_of kV_L_of dc_L_of pm_L_of cd_L_of ct_L_of oc_L_figure kV_L_figure dc_L_figure pm_L_figure cd_L_figure ct_L_figure oc_L_leaf kV_L_leaf dc_L_leaf pm_L_leaf cd_L_leaf ct_L_leaf oc_L_expression kV_L_expression dc_L_expression pm_L_expression cd_L_expression ct_L_expression oc_L_lowest kV_L_lowest dc_L_lowest pm_L_lowest cd_L_lowest ct_L_lowest oc_L_shares kV_L_shares dc_L_shares pm_L_shares cd_L_shares ct_L_shares oc_L_registers kV_L_registers dc_L_registers pm_L_registers cd_L_registers ct_L_registers oc_L_worth kV_L_worth dc_L_worth pm_L_worth cd_L_worth ct_L_worth oc_L_words_in kV_L_words_in dc_L_words_in pm_L_words_in cd_L_words_in ct_L_words_in oc_L_at_border kV_L_at_border dc_L_at_border pm_L_at_border cd_L_at_border ct_L_at_border oc_L_near kV_L_near dc_L_near pm_L_near cd_L_near ct_L_near oc_L_right kV_L_right dc_L_right pm_L_right cd_L_right ct_L_right oc_law kV_law dc_law pm_law cd_law ct_law : Value}
    (a_led_part : PySem.W.nsIn K mainGlobals "led_part" = some (some (.ref f_led_part))) (l_led_part : K.lookup f_led_part = some ⟨oc_led_part, od_led_part, .func (PySem.W.fnOf "led_part" "led_part" (defArgs s_led_part) (defBody s_led_part) (defScope s_led_part) .none kV_led_part dc_led_part pm_led_part an_led_part cd_led_part ct_led_part), sl_led_part⟩) (c_led_part : PySem.W.codeIn K cd_led_part "led_part" = true) (k_led_part : PySem.W.keepIn K (.ref f_led_part) = true)
    (a_side_part : PySem.W.nsIn K mainGlobals "side_part" = some (some (.ref f_side_part))) (l_side_part : K.lookup f_side_part = some ⟨oc_side_part, od_side_part, .func (PySem.W.fnOf "side_part" "side_part" (defArgs s_side_part) (defBody s_side_part) (defScope s_side_part) .none kV_side_part dc_side_part pm_side_part an_side_part cd_side_part ct_side_part), sl_side_part⟩) (c_side_part : PySem.W.codeIn K cd_side_part "side_part" = true) (k_side_part : PySem.W.keepIn K (.ref f_side_part) = true)
    (a_join_worths : PySem.W.nsIn K mainGlobals "join_worths" = some (some (.ref f_join_worths))) (l_join_worths : K.lookup f_join_worths = some ⟨oc_join_worths, od_join_worths, .func (PySem.W.fnOf "join_worths" "join_worths" (defArgs s_join_worths) (defBody s_join_worths) (defScope s_join_worths) .none kV_join_worths dc_join_worths pm_join_worths an_join_worths cd_join_worths ct_join_worths), sl_join_worths⟩) (c_join_worths : PySem.W.codeIn K cd_join_worths "join_worths" = true) (k_join_worths : PySem.W.keepIn K (.ref f_join_worths) = true)
    (a_worth : PySem.W.nsIn K mainGlobals "worth" = some (some (.ref f_worth))) (l_worth : K.lookup f_worth = some ⟨oc_worth, od_worth, .func (PySem.W.fnOf "worth" "worth" (defArgs s_worth) (defBody s_worth) (defScope s_worth) .none kV_worth dc_worth pm_worth an_worth cd_worth ct_worth), sl_worth⟩) (c_worth : PySem.W.codeIn K cd_worth "worth" = true) (k_worth : PySem.W.keepIn K (.ref f_worth) = true)
    (a_L_hand : PySem.W.nsIn K mainGlobals "_law_hand" = some (some (.ref f_L_hand))) (l_L_hand : K.lookup f_L_hand = some ⟨oc_L_hand, od_L_hand, .func (PySem.W.fnOf "_law_hand" "_law_hand" (defArgs s_L_hand) (defBody s_L_hand) (defScope s_L_hand) .none kV_L_hand dc_L_hand pm_L_hand an_L_hand cd_L_hand ct_L_hand), sl_L_hand⟩) (c_L_hand : PySem.W.codeIn K cd_L_hand "_law_hand" = true) (k_L_hand : PySem.W.keepIn K (.ref f_L_hand) = true)
    (a_L_take : PySem.W.nsIn K mainGlobals "_law_take" = some (some (.ref f_L_take))) (l_L_take : K.lookup f_L_take = some ⟨oc_L_take, od_L_take, .func (PySem.W.fnOf "_law_take" "_law_take" (defArgs s_L_take) (defBody s_L_take) (defScope s_L_take) .none kV_L_take dc_L_take pm_L_take an_L_take cd_L_take ct_L_take), sl_L_take⟩) (c_L_take : PySem.W.codeIn K cd_L_take "_law_take" = true) (k_L_take : PySem.W.keepIn K (.ref f_L_take) = true)
    (a_L_of : PySem.W.nsIn K mainGlobals "_law_of" = some (some (.ref f_L_of))) (l_L_of : K.lookup f_L_of = some ⟨oc_L_of, od_L_of, .func (PySem.W.fnOf "_law_of" "_law_of" (defArgs s_L_of) (defBody s_L_of) (defScope s_L_of) .none kV_L_of dc_L_of pm_L_of an_L_of cd_L_of ct_L_of), sl_L_of⟩) (c_L_of : PySem.W.codeIn K cd_L_of "_law_of" = true) (k_L_of : PySem.W.keepIn K (.ref f_L_of) = true)
    (a_L_figure : PySem.W.nsIn K mainGlobals "_law_figure" = some (some (.ref f_L_figure))) (l_L_figure : K.lookup f_L_figure = some ⟨oc_L_figure, od_L_figure, .func (PySem.W.fnOf "_law_figure" "_law_figure" (defArgs s_L_figure) (defBody s_L_figure) (defScope s_L_figure) .none kV_L_figure dc_L_figure pm_L_figure an_L_figure cd_L_figure ct_L_figure), sl_L_figure⟩) (c_L_figure : PySem.W.codeIn K cd_L_figure "_law_figure" = true) (k_L_figure : PySem.W.keepIn K (.ref f_L_figure) = true)
    (a_L_leaf : PySem.W.nsIn K mainGlobals "_law_leaf" = some (some (.ref f_L_leaf))) (l_L_leaf : K.lookup f_L_leaf = some ⟨oc_L_leaf, od_L_leaf, .func (PySem.W.fnOf "_law_leaf" "_law_leaf" (defArgs s_L_leaf) (defBody s_L_leaf) (defScope s_L_leaf) .none kV_L_leaf dc_L_leaf pm_L_leaf an_L_leaf cd_L_leaf ct_L_leaf), sl_L_leaf⟩) (c_L_leaf : PySem.W.codeIn K cd_L_leaf "_law_leaf" = true) (k_L_leaf : PySem.W.keepIn K (.ref f_L_leaf) = true)
    (a_L_expression : PySem.W.nsIn K mainGlobals "_law_expression" = some (some (.ref f_L_expression))) (l_L_expression : K.lookup f_L_expression = some ⟨oc_L_expression, od_L_expression, .func (PySem.W.fnOf "_law_expression" "_law_expression" (defArgs s_L_expression) (defBody s_L_expression) (defScope s_L_expression) .none kV_L_expression dc_L_expression pm_L_expression an_L_expression cd_L_expression ct_L_expression), sl_L_expression⟩) (c_L_expression : PySem.W.codeIn K cd_L_expression "_law_expression" = true) (k_L_expression : PySem.W.keepIn K (.ref f_L_expression) = true)
    (a_L_lowest : PySem.W.nsIn K mainGlobals "_law_lowest" = some (some (.ref f_L_lowest))) (l_L_lowest : K.lookup f_L_lowest = some ⟨oc_L_lowest, od_L_lowest, .func (PySem.W.fnOf "_law_lowest" "_law_lowest" (defArgs s_L_lowest) (defBody s_L_lowest) (defScope s_L_lowest) .none kV_L_lowest dc_L_lowest pm_L_lowest an_L_lowest cd_L_lowest ct_L_lowest), sl_L_lowest⟩) (c_L_lowest : PySem.W.codeIn K cd_L_lowest "_law_lowest" = true) (k_L_lowest : PySem.W.keepIn K (.ref f_L_lowest) = true)
    (a_L_shares : PySem.W.nsIn K mainGlobals "_law_shares" = some (some (.ref f_L_shares))) (l_L_shares : K.lookup f_L_shares = some ⟨oc_L_shares, od_L_shares, .func (PySem.W.fnOf "_law_shares" "_law_shares" (defArgs s_L_shares) (defBody s_L_shares) (defScope s_L_shares) .none kV_L_shares dc_L_shares pm_L_shares an_L_shares cd_L_shares ct_L_shares), sl_L_shares⟩) (c_L_shares : PySem.W.codeIn K cd_L_shares "_law_shares" = true) (k_L_shares : PySem.W.keepIn K (.ref f_L_shares) = true)
    (a_L_registers : PySem.W.nsIn K mainGlobals "_law_registers" = some (some (.ref f_L_registers))) (l_L_registers : K.lookup f_L_registers = some ⟨oc_L_registers, od_L_registers, .func (PySem.W.fnOf "_law_registers" "_law_registers" (defArgs s_L_registers) (defBody s_L_registers) (defScope s_L_registers) .none kV_L_registers dc_L_registers pm_L_registers an_L_registers cd_L_registers ct_L_registers), sl_L_registers⟩) (c_L_registers : PySem.W.codeIn K cd_L_registers "_law_registers" = true) (k_L_registers : PySem.W.keepIn K (.ref f_L_registers) = true)
    (a_L_worth : PySem.W.nsIn K mainGlobals "_law_worth" = some (some (.ref f_L_worth))) (l_L_worth : K.lookup f_L_worth = some ⟨oc_L_worth, od_L_worth, .func (PySem.W.fnOf "_law_worth" "_law_worth" (defArgs s_L_worth) (defBody s_L_worth) (defScope s_L_worth) .none kV_L_worth dc_L_worth pm_L_worth an_L_worth cd_L_worth ct_L_worth), sl_L_worth⟩) (c_L_worth : PySem.W.codeIn K cd_L_worth "_law_worth" = true) (k_L_worth : PySem.W.keepIn K (.ref f_L_worth) = true)
    (a_L_words_in : PySem.W.nsIn K mainGlobals "_law_words_in" = some (some (.ref f_L_words_in))) (l_L_words_in : K.lookup f_L_words_in = some ⟨oc_L_words_in, od_L_words_in, .func (PySem.W.fnOf "_law_words_in" "_law_words_in" (defArgs s_L_words_in) (defBody s_L_words_in) (defScope s_L_words_in) .none kV_L_words_in dc_L_words_in pm_L_words_in an_L_words_in cd_L_words_in ct_L_words_in), sl_L_words_in⟩) (c_L_words_in : PySem.W.codeIn K cd_L_words_in "_law_words_in" = true) (k_L_words_in : PySem.W.keepIn K (.ref f_L_words_in) = true)
    (a_L_at_border : PySem.W.nsIn K mainGlobals "_law_at_border" = some (some (.ref f_L_at_border))) (l_L_at_border : K.lookup f_L_at_border = some ⟨oc_L_at_border, od_L_at_border, .func (PySem.W.fnOf "_law_at_border" "_law_at_border" (defArgs s_L_at_border) (defBody s_L_at_border) (defScope s_L_at_border) .none kV_L_at_border dc_L_at_border pm_L_at_border an_L_at_border cd_L_at_border ct_L_at_border), sl_L_at_border⟩) (c_L_at_border : PySem.W.codeIn K cd_L_at_border "_law_at_border" = true) (k_L_at_border : PySem.W.keepIn K (.ref f_L_at_border) = true)
    (a_L_near : PySem.W.nsIn K mainGlobals "_law_near" = some (some (.ref f_L_near))) (l_L_near : K.lookup f_L_near = some ⟨oc_L_near, od_L_near, .func (PySem.W.fnOf "_law_near" "_law_near" (defArgs s_L_near) (defBody s_L_near) (defScope s_L_near) .none kV_L_near dc_L_near pm_L_near an_L_near cd_L_near ct_L_near), sl_L_near⟩) (c_L_near : PySem.W.codeIn K cd_L_near "_law_near" = true) (k_L_near : PySem.W.keepIn K (.ref f_L_near) = true)
    (a_L_right : PySem.W.nsIn K mainGlobals "_law_right" = some (some (.ref f_L_right))) (l_L_right : K.lookup f_L_right = some ⟨oc_L_right, od_L_right, .func (PySem.W.fnOf "_law_right" "_law_right" (defArgs s_L_right) (defBody s_L_right) (defScope s_L_right) .none kV_L_right dc_L_right pm_L_right an_L_right cd_L_right ct_L_right), sl_L_right⟩) (c_L_right : PySem.W.codeIn K cd_L_right "_law_right" = true) (k_L_right : PySem.W.keepIn K (.ref f_L_right) = true)
    (a_law : PySem.W.nsIn K mainGlobals "law" = some (some (.ref f_law))) (l_law : K.lookup f_law = some ⟨oc_law, od_law, .func (PySem.W.fnOf "law" "law" (defArgs s_law) (defBody s_law) (defScope s_law) .none kV_law dc_law pm_law an_law cd_law ct_law), sl_law⟩) (c_law : PySem.W.codeIn K cd_law "law" = true) (k_law : PySem.W.keepIn K (.ref f_law) = true)
    (z_len : PySem.W.nsIn K mainGlobals "len" = some none)
    (z_sum : PySem.W.nsIn K mainGlobals "sum" = some none)
    (z_max : PySem.W.nsIn K mainGlobals "max" = some none)
    (z_min : PySem.W.nsIn K mainGlobals "min" = some none)
    (z_abs : PySem.W.nsIn K mainGlobals "abs" = some none)
    (z_int : PySem.W.nsIn K mainGlobals "int" = some none)
    (z_tuple : PySem.W.nsIn K mainGlobals "tuple" = some none)
    (z_range : PySem.W.nsIn K mainGlobals "range" = some none)
    (z_sorted : PySem.W.nsIn K mainGlobals "sorted" = some none)
    (z_zip : PySem.W.nsIn K mainGlobals "zip" = some none)
    (z_isinstance : PySem.W.nsIn K mainGlobals "isinstance" = some none)
    (z_list : PySem.W.nsIn K mainGlobals "list" = some none)
    (z_all : PySem.W.nsIn K mainGlobals "all" = some none)
    (z_repr : PySem.W.nsIn K mainGlobals "repr" = some none)
    (z_str : PySem.W.nsIn K mainGlobals "str" = some none)
    (z_enumerate : PySem.W.nsIn K mainGlobals "enumerate" = some none)
    : ∃ fd : FuncData, (∀ (s : Shared) (v : Value), BindsTo s fd ⟨[v], []⟩ [("_law_script", v)]) ∧ ∀ base : Heap, K.In base → base.Ns mainGlobals mg → FnG l.prog w K mg base 10 fa fd ["_law_script"] (spLaw K) := by
  have e := hfa.symm.trans (PySem.W.mg_of X G a_law)
  cases e
  have F_led_part := fun_mk (st := s_led_part) l_led_part c_led_part k_led_part
  have g_led_part := PySem.W.mg_of X G a_led_part
  have b_led_part := F_led_part.binds (ps := ["expression", "registers"]) fun _ _ _ _ _ _ us hl => match us, hl with | [_, _], _ => rfl
  have F_side_part := fun_mk (st := s_side_part) l_side_part c_side_part k_side_part
  have g_side_part := PySem.W.mg_of X G a_side_part
  have b_side_part := F_side_part.binds (ps := ["expression", "shares"]) fun _ _ _ _ _ _ us hl => match us, hl with | [_, _], _ => rfl
  have F_join_worths := fun_mk (st := s_join_worths) l_join_worths c_join_worths k_join_worths
  have g_join_worths := PySem.W.mg_of X G a_join_worths
  have b_join_worths := F_join_worths.binds (ps := ["word", "first", "second"]) fun _ _ _ _ _ _ us hl => match us, hl with | [_, _, _], _ => rfl
  have F_worth := fun_mk (st := s_worth) l_worth c_worth k_worth
  have g_worth := PySem.W.mg_of X G a_worth
  have b_worth := F_worth.binds (ps := ["expression", "registers", "shares"]) fun _ _ _ _ _ _ us hl => match us, hl with | [_, _, _], _ => rfl
  have F_L_hand := fun_mk (st := s_L_hand) l_L_hand c_L_hand k_L_hand
  have g_L_hand := PySem.W.mg_of X G a_L_hand
  have b_L_hand := F_L_hand.binds (ps := ["_law_script", "_law_k"]) fun _ _ _ _ _ _ us hl => match us, hl with | [_, _], _ => rfl
  have F_L_take := fun_mk (st := s_L_take) l_L_take c_L_take k_L_take
  have g_L_take := PySem.W.mg_of X G a_L_take
  have b_L_take := F_L_take.binds (ps := ["_law_hand_here", "_law_many"]) fun _ _ _ _ _ _ us hl => match us, hl with | [_, _], _ => rfl
  have F_L_of := fun_mk (st := s_L_of) l_L_of c_L_of k_L_of
  have g_L_of := PySem.W.mg_of X G a_L_of
  have b_L_of := F_L_of.binds (ps := ["_law_hand_here", "_law_some"]) fun _ _ _ _ _ _ us hl => match us, hl with | [_, _], _ => rfl
  have F_L_figure := fun_mk (st := s_L_figure) l_L_figure c_L_figure k_L_figure
  have g_L_figure := PySem.W.mg_of X G a_L_figure
  have b_L_figure := F_L_figure.binds (ps := ["_law_hand_here"]) fun _ _ _ _ _ _ us hl => match us, hl with | [_], _ => rfl
  have F_L_leaf := fun_mk (st := s_L_leaf) l_L_leaf c_L_leaf k_L_leaf
  have g_L_leaf := PySem.W.mg_of X G a_L_leaf
  have b_L_leaf := F_L_leaf.binds (ps := ["_law_hand_here", "_law_many"]) fun _ _ _ _ _ _ us hl => match us, hl with | [_, _], _ => rfl
  have F_L_expression := fun_mk (st := s_L_expression) l_L_expression c_L_expression k_L_expression
  have g_L_expression := PySem.W.mg_of X G a_L_expression
  have b_L_expression := F_L_expression.binds (ps := ["_law_hand_here", "_law_many", "_law_level", "_law_jumps"]) fun _ _ _ _ _ _ us hl => match us, hl with | [_, _, _, _], _ => rfl
  have F_L_lowest := fun_mk (st := s_L_lowest) l_L_lowest c_L_lowest k_L_lowest
  have g_L_lowest := PySem.W.mg_of X G a_L_lowest
  have b_L_lowest := F_L_lowest.binds (ps := ["_law_row"]) fun _ _ _ _ _ _ us hl => match us, hl with | [_], _ => rfl
  have F_L_shares := fun_mk (st := s_L_shares) l_L_shares c_L_shares k_L_shares
  have g_L_shares := PySem.W.mg_of X G a_L_shares
  have b_L_shares := F_L_shares.binds (ps := ["_law_hand_here", "_law_many"]) fun _ _ _ _ _ _ us hl => match us, hl with | [_, _], _ => rfl
  have F_L_registers := fun_mk (st := s_L_registers) l_L_registers c_L_registers k_L_registers
  have g_L_registers := PySem.W.mg_of X G a_L_registers
  have b_L_registers := F_L_registers.binds (ps := ["_law_hand_here"]) fun _ _ _ _ _ _ us hl => match us, hl with | [_], _ => rfl
  have F_L_worth := fun_mk (st := s_L_worth) l_L_worth c_L_worth k_L_worth
  have g_L_worth := PySem.W.mg_of X G a_L_worth
  have b_L_worth := F_L_worth.binds (ps := ["_law_tree", "_law_regs", "_law_odds"]) fun _ _ _ _ _ _ us hl => match us, hl with | [_, _, _], _ => rfl
  have F_L_words_in := fun_mk (st := s_L_words_in) l_L_words_in c_L_words_in k_L_words_in
  have g_L_words_in := PySem.W.mg_of X G a_L_words_in
  have b_L_words_in := F_L_words_in.binds (ps := ["_law_tree", "_law_word"]) fun _ _ _ _ _ _ us hl => match us, hl with | [_, _], _ => rfl
  have F_L_at_border := fun_mk (st := s_L_at_border) l_L_at_border c_L_at_border k_L_at_border
  have g_L_at_border := PySem.W.mg_of X G a_L_at_border
  have b_L_at_border := F_L_at_border.binds (ps := ["_law_hand_here", "_law_tree", "_law_many"]) fun _ _ _ _ _ _ us hl => match us, hl with | [_, _, _], _ => rfl
  have F_L_near := fun_mk (st := s_L_near) l_L_near c_L_near k_L_near
  have g_L_near := PySem.W.mg_of X G a_L_near
  have b_L_near := F_L_near.binds (ps := ["_law_hand_here", "_law_tree"]) fun _ _ _ _ _ _ us hl => match us, hl with | [_, _], _ => rfl
  have F_L_right := fun_mk (st := s_L_right) l_L_right c_L_right k_L_right
  have g_L_right := PySem.W.mg_of X G a_L_right
  have b_L_right := F_L_right.binds (ps := ["_law_asked"]) fun _ _ _ _ _ _ us hl => match us, hl with | [_], _ => rfl
  have F_law := fun_mk (st := s_law) l_law c_law k_law
  have g_law := PySem.W.mg_of X G a_law
  have B : Bl mg := ⟨PySem.W.mg_none_of X G z_len, PySem.W.mg_none_of X G z_sum, PySem.W.mg_none_of X G z_max, PySem.W.mg_none_of X G z_min, PySem.W.mg_none_of X G z_abs, PySem.W.mg_none_of X G z_int, PySem.W.mg_none_of X G z_tuple, PySem.W.mg_none_of X G z_range, PySem.W.mg_none_of X G z_sorted, PySem.W.mg_none_of X G z_zip, PySem.W.mg_none_of X G z_isinstance, PySem.W.mg_none_of X G z_list, PySem.W.mg_none_of X G z_all, PySem.W.mg_none_of X G z_repr, PySem.W.mg_none_of X G z_str, PySem.W.mg_none_of X G z_enumerate⟩
  refine ⟨PySem.W.fnOf "law" "law" (defArgs s_law) (defBody s_law) (defScope s_law) .none kV_law dc_law pm_law an_law cd_law ct_law, fun s v => .of_eq rfl, fun base _ _ => ?_⟩
  have c_hand := ok_hand (P := l.prog) (w := w) (base := base) F_L_hand g_L_hand b_L_hand B
  have c_take := ok_take (P := l.prog) (w := w) (base := base) F_L_take g_L_take b_L_take
  have c_of := ok_of F_L_of g_L_of b_L_of B c_take
  have c_figure := ok_figure F_L_figure g_L_figure b_L_figure B c_take c_of
  have c_leaf := ok_leaf F_L_leaf g_L_leaf b_L_leaf B c_take c_figure
  have c_expr := ok_expr F_L_expression g_L_expression b_L_expression B c_take c_of c_figure c_leaf 5
  have c_low := ok_low (P := l.prog) (w := w) (base := base) F_L_lowest g_L_lowest b_L_lowest B
  have c_shares := ok_shares F_L_shares g_L_shares b_L_shares B c_take c_of c_low
  have c_regs := ok_regs F_L_registers g_L_registers b_L_registers B c_figure
  have c_led := ok_led (P := l.prog) (w := w) (base := base) F_led_part g_led_part b_led_part B
  have c_side := ok_side (P := l.prog) (w := w) (base := base) F_side_part g_side_part b_side_part B
  have c_join := ok_joinW (P := l.prog) (w := w) (base := base) F_join_worths g_join_worths b_join_worths B
  have c_worth := ok_worth F_worth g_worth b_worth B c_led c_side c_join 5
  have f_worth' := fn_worth F_worth g_worth b_worth B c_led c_side c_join 5
  have k_worth : CalK l.prog w K mg base 7 "worth" ["shares", "registers", "expression"] (spWorth K 5) := ⟨_, _, FnG.of f_worth', g_worth, F_worth.kp, fun s ws hl => match ws, hl with | [_, _, _], _ => .of_eq rfl⟩
  have c_Lworth := ok_Lworth (P := l.prog) (w := w) (base := base) F_L_worth g_L_worth b_L_worth B 5
  have c_words := ok_words (P := l.prog) (w := w) (base := base) F_L_words_in g_L_words_in b_L_words_in B 5 (by decide)
  have c_border := ok_border F_L_at_border g_L_at_border b_L_at_border B c_take c_of c_low c_shares c_words
  have c_near := ok_near F_L_near g_L_near b_L_near B c_take c_of c_regs c_words
  have c_right := ok_right F_L_right g_L_right b_L_right B c_Lworth c_worth k_worth
  exact ok_law F_law B c_hand c_take c_expr c_shares c_border c_near c_right
end NG
open PySem PySem.W PyProof.Rows
set_option maxHeartbeats 0 in
theorem PySem.Challenge.cw_nonegrowsrich_k05_worths_thing_by_thing_holds : PySem.Challenge.rw_nonegrowsrich_k05_worths_thing_by_thing.Holds := by
  w_on; o_law; k_head; (case hw => w_witness2)
  k_fill
  refine NG.walkG (l := PySem.Challenge.rw_nonegrowsrich_k05_worths_thing_by_thing) (n := 63) (k := 10) (x := "_law_script") (sp := fun w => NG.spLaw _) rfl (by decide) rfl ⟨rfl, by decide, by decide⟩ (fun w h Y => PySem.W.kIn_of Y) ?F (fun _ _ a ns hl _ hS => ⟨a, ns, rfl, hS, hl, fun _ => rfl⟩) 
  case F =>
    intro w mg fa h KX G hmg
    refine' NG.all_mk KX G hmg ?a_led_part ?l_led_part ?c_led_part ?k_led_part ?a_side_part ?l_side_part ?c_side_part ?k_side_part ?a_join_worths ?l_join_worths ?c_join_worths ?k_join_worths ?a_worth ?l_worth ?c_worth ?k_worth ?a_L_hand ?l_L_hand ?c_L_hand ?k_L_hand ?a_L_take ?l_L_take ?c_L_take ?k_L_take ?a_L_of ?l_L_of ?c_L_of ?k_L_of ?a_L_figure ?l_L_figure ?c_L_figure ?k_L_figure ?a_L_leaf ?l_L_leaf ?c_L_leaf ?k_L_leaf ?a_L_expression ?l_L_expression ?c_L_expression ?k_L_expression ?a_L_lowest ?l_L_lowest ?c_L_lowest ?k_L_lowest ?a_L_shares ?l_L_shares ?c_L_shares ?k_L_shares ?a_L_registers ?l_L_registers ?c_L_registers ?k_L_registers ?a_L_worth ?l_L_worth ?c_L_worth ?k_L_worth ?a_L_words_in ?l_L_words_in ?c_L_words_in ?k_L_words_in ?a_L_at_border ?l_L_at_border ?c_L_at_border ?k_L_at_border ?a_L_near ?l_L_near ?c_L_near ?k_L_near ?a_L_right ?l_L_right ?c_L_right ?k_L_right ?a_law ?l_law ?c_law ?k_law ?z_len ?z_sum ?z_max ?z_min ?z_abs ?z_int ?z_tuple ?z_range ?z_sorted ?z_zip ?z_isinstance ?z_list ?z_all ?z_repr ?z_str ?z_enumerate
    (case a_led_part => k_is); (case l_led_part => k_is); (case c_led_part => k_is); (case k_led_part => k_is); (case a_side_part => k_is); (case l_side_part => k_is); (case c_side_part => k_is); (case k_side_part => k_is); (case a_join_worths => k_is); (case l_join_worths => k_is); (case c_join_worths => k_is); (case k_join_worths => k_is); (case a_worth => k_is); (case l_worth => k_is); (case c_worth => k_is); (case k_worth => k_is); (case a_L_hand => k_is); (case l_L_hand => k_is); (case c_L_hand => k_is); (case k_L_hand => k_is); (case a_L_take => k_is); (case l_L_take => k_is); (case c_L_take => k_is); (case k_L_take => k_is); (case a_L_of => k_is); (case l_L_of => k_is); (case c_L_of => k_is); (case k_L_of => k_is); (case a_L_figure => k_is); (case l_L_figure => k_is); (case c_L_figure => k_is); (case k_L_figure => k_is); (case a_L_leaf => k_is); (case l_L_leaf => k_is); (case c_L_leaf => k_is); (case k_L_leaf => k_is); (case a_L_expression => k_is); (case l_L_expression => k_is); (case c_L_expression => k_is); (case k_L_expression => k_is); (case a_L_lowest => k_is); (case l_L_lowest => k_is); (case c_L_lowest => k_is); (case k_L_lowest => k_is); (case a_L_shares => k_is); (case l_L_shares => k_is); (case c_L_shares => k_is); (case k_L_shares => k_is); (case a_L_registers => k_is); (case l_L_registers => k_is); (case c_L_registers => k_is); (case k_L_registers => k_is); (case a_L_worth => k_is); (case l_L_worth => k_is); (case c_L_worth => k_is); (case k_L_worth => k_is); (case a_L_words_in => k_is); (case l_L_words_in => k_is); (case c_L_words_in => k_is); (case k_L_words_in => k_is); (case a_L_at_border => k_is); (case l_L_at_border => k_is); (case c_L_at_border => k_is); (case k_L_at_border => k_is); (case a_L_near => k_is); (case l_L_near => k_is); (case c_L_near => k_is); (case k_L_near => k_is); (case a_L_right => k_is); (case l_L_right => k_is); (case c_L_right => k_is); (case k_L_right => k_is); (case a_law => k_is); (case l_law => k_is); (case c_law => k_is); (case k_law => k_is); (case z_len => k_is); (case z_sum => k_is); (case z_max => k_is); (case z_min => k_is); (case z_abs => k_is); (case z_int => k_is); (case z_tuple => k_is); (case z_range => k_is); (case z_sorted => k_is); (case z_zip => k_is); (case z_isinstance => k_is); (case z_list => k_is); (case z_all => k_is); (case z_repr => k_is); (case z_str => k_is); (case z_enumerate => k_is)

