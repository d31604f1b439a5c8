import PyProof.Rows.All
import Wide.All
import OpenK.AllK
import Wide.FinOn
import HandS.Base
import HandS.Call
import HandS.List
import HandS.Comp
import HandS.Ends
import HandS.Dict
import HandS.Iter
import HandS.Text
import HandS.Words
import HandS.WordsList
import HandS.WordsDict
import HandS.Conv
import HandS.Codes
import HandS.Wide
import HandS.Style
import KE.KTupSum
import HandS.Walk
import HandS.More
import HandS.Zip
import HandS.IsInst
import HandS.NoneIn
import PySem.Challenge.RW_nonegrowsrich_k12_whole_a_greater_part_p
set_option Elab.async false
set_option linter.all false
set_option maxRecDepth 100000
set_option maxHeartbeats 4000000
namespace NG
open PySem PySem.Spec PyProof.Rows L2

/-! ### sum of a tuple -/
theorem cr_sumT {X : Cx} (hc : X.calm = true) : CallR X (.builtin "sum") (fun vs H Q => ∃ (a : Addr) (ns : List Int), vs = [V.ref a] ∧ SqT X.K H a (ns.map V.int) ∧ Q (.int ns.sum) H) := by
  intro pins s σ H vs us Q I r h
  obtain ⟨a, ns, rfl, hs, q⟩ := h
  obtain ⟨its, rv, hl, _⟩ := I.tuple hs
  rw [Vals.ref1 r]
  have hi := rv.ints
  obtain ⟨xs, e⟩ := hi.allInts.items
  have hn : numsOf (intItems xs).toList = ns := by rw [← e]; exact hi.numsOf
  rw [nums_intItems] at hn
  rw [e] at hl
  refine PySem.W.ktm_sumG (I.ok.hd hc) hl fun h' tk t' hk => ?_
  rw [preSum_eq, List.take_of_length_le (by simp), hn]
  exact ⟨.int _, H, I.kept hk, ⟨_, rfl⟩, q⟩

/-! ### rules whose reading names the written part, for a comprehension's block -/
theorem ixl {X : Cx} (K : PySem.W.Frag) (h : X.K = K := by rfl) : IxR X (rIxL K) := by
  subst h
  exact ix_list
theorem ixt {X : Cx} (K : PySem.W.Frag) (h : X.K = K := by rfl) : IxR X (rIxT K) := by
  subst h
  exact ix_tup
theorem lenK {X : Cx} (K : PySem.W.Frag) (h : X.K = K := by rfl) : CallR X (.builtin "len") (fun xs H Q => ∃ p ys, xs = [.ref p] ∧ (SqL K H p ys ∨ SqT K H p ys) ∧ Q (.int ys.length) H) := by
  subst h
  exact call_len_seq
theorem sumT {X : Cx} (K : PySem.W.Frag) (hc : X.calm = true) (h : X.K = K := by rfl) : CallR X (.builtin "sum") (fun vs H Q => ∃ (a : Addr) (ns : List Int), vs = [V.ref a] ∧ SqT K H a (ns.map V.int) ∧ Q (.int ns.sum) H) := by
  subst h
  exact cr_sumT hc
theorem sumL {X : Cx} (K : PySem.W.Frag) (hc : X.calm = true) (h : X.K = K := by rfl) : CallR X (.builtin "sum") (rSum K) := by
  subst h
  exact cr_sum hc

/-! ### short words -/
theorem iteFF {c : Bool} {A B : Prop} (hc : c = false) (h : B) : if c = true then A else B := by
  subst hc
  exact iteF h
theorem iteTT {c : Bool} {A B : Prop} (hc : c = true) (h : A) : if c = true then A else B := by
  subst hc
  exact iteT h
theorem iteD {p : Prop} [Decidable p] {A B : Prop} (h1 : p → A) (h2 : ¬ p → B) : if decide p = true then A else B := by
  by_cases h : p
  · rw [decide_eq_true h]
    exact iteT (h1 h)
  · rw [decide_eq_false h]
    exact iteF (h2 h)
theorem at_mem {xs : List V} {i : Int} (h0 : 0 ≤ i) (h1 : i < xs.length) : ∃ v, atI xs i = some v ∧ v ∈ xs := by
  have hj : i.toNat < xs.length := by omega
  refine ⟨xs[i.toNat], ?_, List.getElem_mem hj⟩
  exact at_of (j := i.toNat) (by omega) (List.getElem?_eq_getElem hj)
theorem at_int {ns : List Int} {i : Int} (h0 : 0 ≤ i) (h1 : i < ns.length) : atI (ns.map V.int) i = some (.int (ns.getD i.toNat 0)) := by
  have hj : i.toNat < ns.length := by omega
  refine at_of (j := i.toNat) (by omega) ?_
  rw [List.getElem?_map, List.getElem?_eq_getElem hj, List.getD_eq_getElem?_getD, List.getElem?_eq_getElem hj]
  rfl

/-- an expression, with a word behind it -/
def tCutE (t : TE) : TE := fun σ H Q => ∃ M : VK, t σ H M ∧ ∀ v H', M v H' → Q v H'
theorem pe_cut {X : Cx} {e : Expr} {t : TE} (h : PE X e t) : PE X e (tCutE t) :=
  ⟨fun pins s σ H Q I ⟨M, hm, hq⟩ => thn (h.run pins s σ H M I hm) fun u s1 ⟨x, H1, I1, r, q⟩ => ⟨x, H1, I1, r, hq _ _ q⟩⟩

/-! ### heaps: all but one object is as it was -/
def But (a : Addr) (H H' : Hp) : Prop := ∀ b o, b ≠ a → H b = some o → H' b = some o
theorem But.refl (a : Addr) (H : Hp) : But a H H := fun _ _ _ h => h
theorem But.trans {a : Addr} {H H1 H2 : Hp} (x : But a H H1) (y : But a H1 H2) : But a H H2 := fun b o n h => y b o n (x b o n h)
theorem But.of {a : Addr} {H H' : Hp} (x : Same H H') : But a H H' := fun b o _ h => x b o h
theorem But.new {a p : Addr} {H : Hp} {o : HO} (h : H p = none) : But a H (upd H p o) := fun b u _ e => by
  rw [upd_ne (ne_of_none e h)]
  exact e
theorem But.put {a : Addr} {H : Hp} {o : HO} : But a H (upd H a o) := fun b u n e => by
  rw [upd_ne n]
  exact e
theorem But.same {a : Addr} {H H' : Hp} (x : But a H H') (h : H a = none) : Same H H' := fun b o e => x b o (ne_of_none e h) e
theorem same_new {p : Addr} {H : Hp} {o : HO} (h : H p = none) : Same H (upd H p o) := fun b u e => by
  rw [upd_ne (ne_of_none e h)]
  exact e
theorem But.free {a b : Addr} {H H' : Hp} {o : HO} (x : But a H H') (h : H a = some o) (n : H' b = none) (n2 : H' a ≠ none) : H b = none := by
  cases q : H b with
  | none => rfl
  | some u =>
    by_cases e : b = a
    · subst e
      exact absurd n n2
    · rw [x b u e q] at n
      cases n
theorem But.sqt {a p : Addr} {H H' : Hp} {K : PySem.W.Frag} {l xs : List V} (x : But a H H') (h : H a = some (.lst l)) (q : SqT K H p xs) : SqT K H' p xs := by
  rcases q with (q | ⟨o, q⟩) | q
  · exact .inl (.inl (x _ _ (ne_of q h (by intro z; cases z)) q))
  · exact .inl (.inr ⟨o, x _ _ (ne_of q h (by intro z; cases z)) q⟩)
  · exact .inr q
theorem same_sqt {p : Addr} {H H' : Hp} {K : PySem.W.Frag} {xs : List V} (x : Same H H') (q : SqT K H p xs) : SqT K H' p xs := by
  rcases q with (q | ⟨o, q⟩) | q
  · exact .inl (.inl (x _ _ q))
  · exact .inl (.inr ⟨o, x _ _ q⟩)
  · exact .inr q

/-! ### the hand -/
def HandAt (H : Hp) (a : Addr) (n : Nat) : Prop := ∃ g s m : Int, H a = some (.lst [.int g, .int s, .int m]) ∧ 0 ≤ g ∧ 0 ≤ s ∧ 0 ≤ m ∧ m ≤ n
theorem HandAt.le {H : Hp} {a : Addr} {n k : Nat} (h : HandAt H a n) (l : n ≤ k) : HandAt H a k := by
  obtain ⟨g, s, m, e, h1, h2, h3, h4⟩ := h
  exact ⟨g, s, m, e, h1, h2, h3, by omega⟩
theorem HandAt.new {H : Hp} {a p : Addr} {n : Nat} {o : HO} (h : HandAt H a n) (hp : H p = none) : HandAt (upd H p o) a n := by
  obtain ⟨g, s, m, e, h1, h2, h3, h4⟩ := h
  exact ⟨g, s, m, by rw [upd_ne (ne_of_none e hp)]; exact e, h1, h2, h3, h4⟩
theorem HandAt.put {H : Hp} {a p : Addr} {n : Nat} {o : HO} (h : HandAt H a n) (hp : p ≠ a) : HandAt (upd H p o) a n := by
  obtain ⟨g, s, m, e, h1, h2, h3, h4⟩ := h
  exact ⟨g, s, m, by rw [upd_ne (Ne.symm hp)]; exact e, h1, h2, h3, h4⟩
theorem HandAt.ne {H : Hp} {a p : Addr} {n : Nat} (h : HandAt H a n) (hp : H p = none) : p ≠ a := by
  obtain ⟨g, s, m, e, _⟩ := h
  exact (ne_of_none e hp).symm
theorem HandAt.some {H : Hp} {a : Addr} {n : Nat} (h : HandAt H a n) : ∃ l, H a = some (.lst l) := by
  obtain ⟨g, s, m, e, _⟩ := h
  exact ⟨_, e⟩
theorem But.sq {a p : Addr} {H H' : Hp} {K : PySem.W.Frag} {n : Nat} {xs : List V} (x : But a H H') (h : HandAt H a n) (q : SqT K H p xs) : SqT K H' p xs := by
  obtain ⟨l, e⟩ := h.some
  exact x.sqt e q

structure Bl (mg : Str → Option Value) : Prop where
  len : mg "len" = none
  sum : mg "sum" = none
  max : mg "max" = none
  min : mg "min" = none
  abs : mg "abs" = none
  int : mg "int" = none
  tuple : mg "tuple" = none
  range : mg "range" = none
  sorted : mg "sorted" = none
  zip : mg "zip" = none
  isinstance : mg "isinstance" = none
  list : mg "list" = none
  all : mg "all" = none
  repr : mg "repr" = none
  str : mg "str" = none
  enumerate : mg "enumerate" = none

/-! ### a def that may be called by its name -/
structure Cal (P : Program) (w : World) (K : PySem.W.Frag) (mg : Str → Option Value) (base : Heap) (k : Nat) (x : Str) (sp : Sp) : Prop where
  ex : ∃ (f : Addr) (fd : FuncData) (ps : List Str), FnOk P w K mg base CX0 k f fd ps sp ∧ mg x = some (.ref f) ∧ PySem.W.keepIn K (.ref f) = true ∧ Binds K fd ps []
section
variable {X : Cx} {k j : Nat} {x : Str} {sp : Sp} {p pos : Pos} {e : Expr} {es : List Expr} {t : TA}
theorem pe_c (c : Cal X.prog X.w X.K X.mg X.base k x sp) (hr : Room j X.A) (hk : k ≤ j) (hg : Gl X x) (ha : PA X (e :: es) t)
    (hdb : (x == ("__debug__" : Str)) = false := by decide) (he : starEach (e :: es) X.env = (false, eval e X.env) :: starEach es X.env := by rfl) (hpl : (backTo pos (starEach es X.env)).any (·.1) = false := by rfl) :
    PE X (.Call (.Name x p) (e :: es) [] pos) (tCall sp [] E0 t) := by
  obtain ⟨f, fd, ps, F, hm, kp, b⟩ := c.ex
  exact pe_call F (hr.mono hk) hg hm kp b .nil pass0 ha hdb he hpl
end
theorem Cal.mono {P : Program} {w : World} {K : PySem.W.Frag} {mg : Str → Option Value} {base : Heap} {j k : Nat} {x : Str} {sp : Sp} (c : Cal P w K mg base j x sp) (h : j ≤ k) : Cal P w K mg base k x sp := by
  obtain ⟨f, fd, ps, F, r⟩ := c.ex
  exact ⟨f, fd, ps, F.mono h, r⟩

/-! ### promises of the draws -/
def spTake : Sp := fun vs H Q _ => ∃ (a : Addr) (many : Int) (n : Nat), vs = [.ref a, .int many] ∧ 0 < many ∧ many < 2 ^ 62 ∧ HandAt H a n ∧ n ≤ 1000000000 ∧
  ∀ H' r, But a H H' → HandAt H' a (n + 1) → 0 ≤ r → r < many → Q (.int r) H'
def spHand (K : PySem.W.Frag) : Sp := fun vs H Q _ => ∃ (a : Addr) (k : Int) (ns : List Int), vs = [.ref a, .int k] ∧ 0 ≤ k ∧ k < 1000 ∧ SqL K H a (ns.map V.int) ∧
  ∀ p g s, H p = none → 0 ≤ g → 0 ≤ s → Q (.ref p) (upd H p (.lst [.int g, .int s, .int 0]))
/-- an item of a list that is given -/
def spOf (K : PySem.W.Frag) : Sp := fun vs H Q _ => ∃ (a b : Addr) (xs : List V) (n : Nat), vs = [.ref a, .ref b] ∧ a ≠ b ∧ H b = some (.lst xs) ∧ 0 < xs.length ∧ xs.length ≤ 1000 ∧ HandAt H a n ∧ n ≤ 1000000000 ∧
  ∀ H' v, But a H H' → HandAt H' a (n + 1) → v ∈ xs → Q v H'
def spFigure : Sp := fun vs H Q _ => ∃ (a : Addr) (n : Nat), vs = [.ref a] ∧ HandAt H a n ∧ n ≤ 999999990 ∧
  ∀ H' c, But a H H' → HandAt H' a (n + 3) → -1000 ≤ c → c ≤ 1000 → Q (.int c) H'
end NG

namespace NG
open PySem PySem.Spec PyProof.Rows L2

/-! ### expressions -/
inductive W4 where
  | sum | less | least | most
  deriving DecidableEq
def wn : W4 → Str
  | .sum => "sum"
  | .less => "less"
  | .least => "least"
  | .most => "most"
inductive Ex where
  | fig (c : Int) | reg (i : Nat) | share (j : Nat)
  | two (w : W4) (a b : Ex)
  | times (f : Int) (a : Ex) | by (i : Nat) (a : Ex)
  | when (i : Nat) (c : Int) (a b : Ex) | whr (j : Nat) (c : Int) (a b : Ex)
def ExAt (K : PySem.W.Frag) (H : Hp) : Ex → V → Prop
  | .fig c, v => ∃ p, v = .ref p ∧ SqT K H p [.str "fig", .int c]
  | .reg i, v => ∃ p, v = .ref p ∧ SqT K H p [.str "reg", .int (i : Int)]
  | .share j, v => ∃ p, v = .ref p ∧ SqT K H p [.str "share", .int (j : Int)]
  | .two w a b, v => ∃ p x y, v = .ref p ∧ SqT K H p [.str (wn w), x, y] ∧ ExAt K H a x ∧ ExAt K H b y
  | .times f a, v => ∃ p x, v = .ref p ∧ SqT K H p [.str "times", .int f, x] ∧ ExAt K H a x
  | .by i a, v => ∃ p x, v = .ref p ∧ SqT K H p [.str "by", .int (i : Int), x] ∧ ExAt K H a x
  | .when i c a b, v => ∃ p x y, v = .ref p ∧ SqT K H p [.str "when", .int (i : Int), .int c, x, y] ∧ ExAt K H a x ∧ ExAt K H b y
  | .whr j c a b, v => ∃ p x y, v = .ref p ∧ SqT K H p [.str "where", .int (j : Int), .int c, x, y] ∧ ExAt K H a x ∧ ExAt K H b y
theorem ExAt.imp {K : PySem.W.Frag} {H H' : Hp} (h : ∀ p xs, SqT K H p xs → SqT K H' p xs) : ∀ {e : Ex} {v : V}, ExAt K H e v → ExAt K H' e v
  | .fig _, _, ⟨p, e, q⟩ => ⟨p, e, h _ _ q⟩
  | .reg _, _, ⟨p, e, q⟩ => ⟨p, e, h _ _ q⟩
  | .share _, _, ⟨p, e, q⟩ => ⟨p, e, h _ _ q⟩
  | .two _ _ _, _, ⟨p, x, y, e, q, a, b⟩ => ⟨p, x, y, e, h _ _ q, ExAt.imp h a, ExAt.imp h b⟩
  | .times _ _, _, ⟨p, x, e, q, a⟩ => ⟨p, x, e, h _ _ q, ExAt.imp h a⟩
  | .by _ _, _, ⟨p, x, e, q, a⟩ => ⟨p, x, e, h _ _ q, ExAt.imp h a⟩
  | .when _ _ _ _, _, ⟨p, x, y, e, q, a, b⟩ => ⟨p, x, y, e, h _ _ q, ExAt.imp h a, ExAt.imp h b⟩
  | .whr _ _ _ _, _, ⟨p, x, y, e, q, a, b⟩ => ⟨p, x, y, e, h _ _ q, ExAt.imp h a, ExAt.imp h b⟩
theorem ExAt.but {K : PySem.W.Frag} {H H' : Hp} {a : Addr} {n : Nat} {e : Ex} {v : V} (x : ExAt K H e v) (b : But a H H') (h : HandAt H a n) : ExAt K H' e v := x.imp fun _ _ q => b.sq h q
theorem ExAt.same {K : PySem.W.Frag} {H H' : Hp} {e : Ex} {v : V} (x : ExAt K H e v) (b : Same H H') : ExAt K H' e v := x.imp fun _ _ q => same_sqt b q
theorem ExAt.new {K : PySem.W.Frag} {H : Hp} {p : Addr} {o : HO} {e : Ex} {v : V} (x : ExAt K H e v) (n : H p = none) : ExAt K (upd H p o) e v := x.same (same_new n)
def ExOk (many : Nat) : Ex → Prop
  | .fig c => -1000 ≤ c ∧ c ≤ 1000
  | .reg i => i < 4
  | .share j => j < many
  | .two _ a b => ExOk many a ∧ ExOk many b
  | .times f a => (-9 ≤ f ∧ f ≤ 9) ∧ ExOk many a
  | .by i a => i < 4 ∧ ExOk many a
  | .when i c a b => i < 4 ∧ (-1000 ≤ c ∧ c ≤ 1000) ∧ ExOk many a ∧ ExOk many b
  | .whr j c a b => j < many ∧ (1 ≤ c ∧ c ≤ 1000) ∧ ExOk many a ∧ ExOk many b
def Ex.dep : Ex → Nat
  | .fig _ => 1
  | .reg _ => 1
  | .share _ => 1
  | .two _ a b => max a.dep b.dep + 1
  | .times _ a => a.dep + 1
  | .by _ a => a.dep + 1
  | .when _ _ a b => max a.dep b.dep + 1
  | .whr _ _ a b => max a.dep b.dep + 1
def jw : W4 → Int → Int → Int
  | .sum, x, y => x + y
  | .less, x, y => x - y
  | .least, x, y => if y < x then y else x
  | .most, x, y => if y > x then y else x
def wo (rs ss : List Int) : Ex → Int
  | .fig c => c * ss.sum
  | .reg i => rs.getD i 0 * ss.sum
  | .share j => 1000 * ss.getD j 0
  | .two w a b => jw w (wo rs ss a) (wo rs ss b)
  | .times f a => f * wo rs ss a
  | .by i a => rs.getD i 0 * wo rs ss a
  | .when i c a b => if rs.getD i 0 < c then wo rs ss a else wo rs ss b
  | .whr j c a b => if 1000 * ss.getD j 0 < c * ss.sum then wo rs ss a else wo rs ss b
theorem at_nth {ns : List Int} {i : Nat} (h : i < ns.length) : atI (ns.map V.int) (i : Int) = some (.int (ns.getD i 0)) := at_int (by omega) (by omega)

def RegsAt (K : PySem.W.Frag) (H : Hp) (rs : List Int) (v : V) : Prop := ∃ p, v = .ref p ∧ SqT K H p (rs.map V.int) ∧ rs.length = 4 ∧ ∀ x ∈ rs, -1000 ≤ x ∧ x ≤ 1000
def ShAt (K : PySem.W.Frag) (H : Hp) (many : Nat) (ss : List Int) (v : V) : Prop := ∃ p, v = .ref p ∧ SqT K H p (ss.map V.int) ∧ ss.length = many ∧ (∀ x ∈ ss, 0 ≤ x ∧ x < 2 ^ 50) ∧ 0 < ss.sum ∧ ss.sum < 2 ^ 60
theorem RegsAt.imp {K : PySem.W.Frag} {H H' : Hp} {rs : List Int} {v : V} (r : RegsAt K H rs v) (h : ∀ p xs, SqT K H p xs → SqT K H' p xs) : RegsAt K H' rs v := by
  obtain ⟨p, e, q, l⟩ := r
  exact ⟨p, e, h _ _ q, l⟩
theorem ShAt.imp {K : PySem.W.Frag} {H H' : Hp} {many : Nat} {rs : List Int} {v : V} (r : ShAt K H many rs v) (h : ∀ p xs, SqT K H p xs → SqT K H' p xs) : ShAt K H' many rs v := by
  obtain ⟨p, e, q, l⟩ := r
  exact ⟨p, e, h _ _ q, l⟩
theorem getD_mem {ns : List Int} {i : Nat} (h : i < ns.length) : ns.getD i 0 ∈ ns := by
  rw [List.getD_eq_getElem?_getD, List.getElem?_eq_getElem h]
  exact List.getElem_mem h

/-! ### promises -/
def spWorth (K : PySem.W.Frag) (n : Nat) : Sp := fun vs H Q _ => ∃ (v r s : V) (e : Ex) (many : Nat) (rs ss : List Int), vs = [v, r, s] ∧ ExAt K H e v ∧ ExOk many e ∧ e.dep ≤ n ∧ RegsAt K H rs r ∧ ShAt K H many ss s ∧ Q (.int (wo rs ss e)) H
def spJoinW : Sp := fun vs H Q _ => ∃ (w : W4) (x y : Int), vs = [.str (wn w), .int x, .int y] ∧ Q (.int (jw w x y)) H
def spLed (K : PySem.W.Frag) : Sp := fun vs H Q _ => ∃ (p : Addr) (r x y : V) (i : Nat) (c : Int) (rs : List Int), vs = [.ref p, r] ∧ SqT K H p [.str "when", .int (i : Int), .int c, x, y] ∧ i < 4 ∧ RegsAt K H rs r ∧ Q (if rs.getD i 0 < c then x else y) H
def spSide (K : PySem.W.Frag) : Sp := fun vs H Q _ => ∃ (p : Addr) (s x y : V) (many j : Nat) (c : Int) (ss : List Int), vs = [.ref p, s] ∧ SqT K H p [.str "where", .int (j : Int), .int c, x, y] ∧ j < many ∧ (1 ≤ c ∧ c ≤ 1000) ∧ ShAt K H many ss s ∧ Q (if 1000 * ss.getD j 0 < c * ss.sum then x else y) H
def spMills (K : PySem.W.Frag) : Sp := fun vs H Q _ => ∃ (s : V) (many j : Nat) (ss : List Int), vs = [s, .int (j : Int)] ∧ ShAt K H many ss s ∧ j < many ∧ Q (.int (1000 * ss.getD j 0 / ss.sum)) H
def cost : Nat → Nat
  | 0 => 6
  | n + 1 => 2 * cost n + 20
theorem cost_ge (l : Nat) : 6 ≤ cost l := by
  cases l with
  | zero => exact Nat.le_refl _
  | succ l =>
    unfold cost
    omega
def spLeaf (K : PySem.W.Frag) : Sp := fun vs H Q _ => ∃ (a : Addr) (many n : Nat), vs = [.ref a, .int (many : Int)] ∧ 1 ≤ many ∧ many ≤ 1000 ∧ HandAt H a n ∧ n ≤ 999999000 ∧
  ∀ H' v e, But a H H' → HandAt H' a (n + 5) → ExAt K H' e v → ExOk many e → e.dep ≤ 1 → Q v H'
def spExpr (K : PySem.W.Frag) (m : Nat) : Sp := fun vs H Q _ => ∃ (a : Addr) (many l n : Nat), vs = [.ref a, .int (many : Int), .int (l : Int), .int 1] ∧ l < m ∧ 1 ≤ many ∧ many ≤ 1000 ∧ HandAt H a n ∧ n + cost l ≤ 999999000 ∧
  ∀ H' v e, But a H H' → HandAt H' a (n + cost l) → ExAt K H' e v → ExOk many e → e.dep ≤ l + 1 → Q v H'
theorem cal_never {P : Program} {w : World} {K : PySem.W.Frag} {mg : Str → Option Value} {base : Heap} {k : Nat} {x qual : Str} {st : Stmt} {f : Addr} {fd : FuncData} {ps : List Str} {sp : Sp} (F : Fun K x qual st f fd) (gF : mg x = some (.ref f)) (b : Binds K fd ps []) (h : ∀ vs H Q E, ¬ sp vs H Q E) : Cal P w K mg base k x sp :=
  ⟨f, fd, ps, ⟨fun vs H Q E q => absurd q (h _ _ _ _), fun A outer s H args us vs Q E _ _ _ _ q => absurd q (h _ _ _ _)⟩, gF, F.kp, b⟩
end NG

namespace NG
open PySem PySem.Spec PyProof.Rows L2

/-! ### the greatest that divides all -/
def gf (g : Nat) (x : Int) : Nat := Nat.gcd g x.toNat
def gl (ns : List Int) : Nat := ns.foldl gf 0
theorem gl_step {ns : List Int} {i : Nat} {x : Int} (h : ns[i]? = some x) : gl (ns.take (i + 1)) = Nat.gcd (gl (ns.take i)) x.toNat := by
  unfold gl
  rw [List.take_add_one, h, List.foldl_append]
  rfl
theorem gf_dvd : ∀ (ns : List Int) (g : Nat), ns.foldl gf g ∣ g ∧ ∀ x ∈ ns, ns.foldl gf g ∣ x.toNat
  | [], g => ⟨Nat.dvd_refl _, fun x h => by cases h⟩
  | y :: ns, g => by
    obtain ⟨h1, h2⟩ := gf_dvd ns (gf g y)
    refine ⟨Nat.dvd_trans h1 (Nat.gcd_dvd_left _ _), fun x hx => ?_⟩
    rcases List.mem_cons.mp hx with rfl | hx
    · exact Nat.dvd_trans h1 (Nat.gcd_dvd_right _ _)
    · exact h2 x hx
theorem gl_dvd {ns : List Int} {x : Int} (h : x ∈ ns) : gl ns ∣ x.toNat := (gf_dvd ns 0).2 x h
theorem gl_pos {ns : List Int} {x : Int} (h : x ∈ ns) (p : 0 < x) : 0 < gl ns := Nat.pos_of_dvd_of_pos (gl_dvd h) (by omega)
theorem sum_nonneg : ∀ {ms : List Int}, (∀ x ∈ ms, 0 ≤ x) → 0 ≤ ms.sum
  | [], _ => by simp
  | y :: ms, h => by
    have := sum_nonneg (ms := ms) fun x hx => h x (List.mem_cons_of_mem _ hx)
    have := h y List.mem_cons_self
    rw [List.sum_cons]
    omega
theorem sum_pos : ∀ {ms : List Int} {x : Int}, (∀ x ∈ ms, 0 ≤ x) → x ∈ ms → 0 < x → 0 < ms.sum
  | y :: ms, x, h, hx, p => by
    have h1 := sum_nonneg (ms := ms) fun x hx => h x (List.mem_cons_of_mem _ hx)
    have h2 := h y List.mem_cons_self
    rw [List.sum_cons]
    rcases List.mem_cons.mp hx with rfl | hx
    · omega
    · have := sum_pos (ms := ms) (fun x hx => h x (List.mem_cons_of_mem _ hx)) hx p
      omega
theorem sum_le {B : Int} : ∀ {ms : List Int}, (∀ x ∈ ms, x ≤ B) → ms.sum ≤ ms.length * B
  | [], _ => by simp
  | y :: ms, h => by
    have h1 := sum_le (ms := ms) fun x hx => h x (List.mem_cons_of_mem _ hx)
    have h2 := h y List.mem_cons_self
    rw [List.sum_cons, List.length_cons, Int.natCast_succ, Int.add_mul]
    omega
theorem div_le_self' {x : Int} {g : Nat} (h : 0 ≤ x) : x / (g : Int) ≤ x := Int.ediv_le_self _ h
/-- what lowest makes -/
def low (ns : List Int) : List Int := ns.map fun x => x / (gl ns : Int)
theorem low_sh {ns : List Int} (hb : ∀ x ∈ ns, 0 ≤ x ∧ x < 2 ^ 50) (hl : ns.length ≤ 1000) {y : Int} (hy : y ∈ ns) (py : 0 < y) :
    (∀ x ∈ low ns, 0 ≤ x ∧ x < 2 ^ 50) ∧ 0 < (low ns).sum ∧ (low ns).sum < 2 ^ 60 := by
  have hg := gl_pos hy py
  have h1 : ∀ x ∈ low ns, 0 ≤ x ∧ x < 2 ^ 50 := fun x hx => by
    obtain ⟨z, hz, rfl⟩ := List.mem_map.mp hx
    have h2 := hb z hz
    exact ⟨Int.ediv_nonneg h2.1 (by omega), Int.lt_of_le_of_lt (div_le_self' h2.1) h2.2⟩
  refine ⟨h1, ?_, ?_⟩
  · refine sum_pos (x := y / (gl ns : Int)) (fun x hx => (h1 x hx).1) (List.mem_map.mpr ⟨y, hy, rfl⟩) ?_
    have hd : (gl ns : Nat) ≤ y.toNat := Nat.le_of_dvd (by omega) (gl_dvd hy)
    exact Int.ediv_pos_of_pos_of_dvd py (by omega) (by
      have : ((gl ns : Nat) : Int) ∣ ((y.toNat : Nat) : Int) := Int.natCast_dvd_natCast.mpr (gl_dvd hy)
      rwa [Int.toNat_of_nonneg (by omega)] at this)
  · have h3 := sum_le (B := 2 ^ 50) (ms := low ns) fun x hx => Int.le_of_lt (h1 x hx).2
    have h4 : (low ns).length ≤ 1000 := by
      unfold low
      rw [List.length_map]
      exact hl
    have h5 : ((low ns).length : Int) * 2 ^ 50 ≤ 1000 * 2 ^ 50 := Int.mul_le_mul_of_nonneg_right (by omega) (by decide)
    have h6 : (1000 : Int) * 2 ^ 50 < 2 ^ 60 := by decide
    omega
theorem gcd_turn {u v : Nat} : Nat.gcd v (u % v) = Nat.gcd u v := by
  rw [Nat.gcd_comm v, ← Nat.gcd_rec, Nat.gcd_comm]
theorem ixN_of {n : Nat} {r : Int} (h0 : 0 ≤ r) (h1 : r < n) : ixN n r = some r.toNat := by
  unfold ixN
  rw [if_pos h0, if_pos h1]

theorem tYes_in {σ : L2.St} {H : Hp} {A B : Hp → Prop} (h : A H) : tYes σ H (fun b H3 => if b = true then A H3 else B H3) := by
  show if true = true then A H else B H
  exact iteT h

/-! ### promises -/
def spLow (K : PySem.W.Frag) : Sp := fun vs H Q _ => ∃ (p : Addr) (ns : List Int) (y : Int), vs = [.ref p] ∧ H p = some (.lst (ns.map V.int)) ∧ (∀ x ∈ ns, 0 ≤ x ∧ x < 2 ^ 50) ∧ ns.length ≤ 1000 ∧ y ∈ ns ∧ 0 < y ∧
  ∀ H' v ms, Same H H' → ShAt K H' ns.length ms v → Q v H'
def spShares (K : PySem.W.Frag) : Sp := fun vs H Q _ => ∃ (a : Addr) (many n : Nat), vs = [.ref a, .int (many : Int)] ∧ 1 ≤ many ∧ many ≤ 3 ∧ HandAt H a n ∧ n ≤ 999998000 ∧
  ∀ H' v ms, But a H H' → HandAt H' a (n + 20) → ShAt K H' many ms v → Q v H'
def spRegs (K : PySem.W.Frag) : Sp := fun vs H Q _ => ∃ (a : Addr) (n : Nat), vs = [.ref a] ∧ HandAt H a n ∧ n ≤ 999998000 ∧
  ∀ H' v rs, But a H H' → HandAt H' a (n + 12) → RegsAt K H' rs v → Q v H'
def spAsked (K : PySem.W.Frag) : Sp := fun vs H Q _ => ∃ (a : Addr) (many n : Nat), vs = [.ref a, .int (many : Int)] ∧ 2 ≤ many ∧ many ≤ 3 ∧ HandAt H a n ∧ n ≤ 999997000 ∧
  ∀ H' v ms, But a H H' → HandAt H' a (n + 25) → ShAt K H' many ms v → Q v H'
end NG

namespace NG
open PySem PySem.Spec PyProof.Rows L2
/-! ### rows of expressions -/
def RowsAt (K : PySem.W.Frag) (H : Hp) : List V → List Ex → Prop
  | [], [] => True
  | v :: vs, e :: es => ExAt K H e v ∧ RowsAt K H vs es
  | _, _ => False
theorem RowsAt.imp {K : PySem.W.Frag} {H H' : Hp} (h : ∀ p xs, SqT K H p xs → SqT K H' p xs) : ∀ {vs : List V} {es : List Ex}, RowsAt K H vs es → RowsAt K H' vs es
  | [], [], _ => trivial
  | _ :: _, _ :: _, ⟨x, r⟩ => ⟨x.imp h, RowsAt.imp h r⟩
theorem RowsAt.same {K : PySem.W.Frag} {H H' : Hp} {vs : List V} {es : List Ex} (r : RowsAt K H vs es) (s : Same H H') : RowsAt K H' vs es := r.imp fun _ _ q => same_sqt s q
theorem RowsAt.len {K : PySem.W.Frag} {H : Hp} : ∀ {vs : List V} {es : List Ex}, RowsAt K H vs es → vs.length = es.length
  | [], [], _ => rfl
  | _ :: _, _ :: _, ⟨_, r⟩ => by rw [List.length_cons, List.length_cons, r.len]
theorem RowsAt.snoc {K : PySem.W.Frag} {H : Hp} {v : V} {e : Ex} (x : ExAt K H e v) : ∀ {vs : List V} {es : List Ex}, RowsAt K H vs es → RowsAt K H (vs ++ [v]) (es ++ [e])
  | [], [], _ => ⟨x, trivial⟩
  | _ :: _, _ :: _, ⟨y, r⟩ => ⟨y, RowsAt.snoc x r⟩
theorem RowsAt.get {K : PySem.W.Frag} {H : Hp} : ∀ {vs : List V} {es : List Ex} {k : Nat} {e : Ex}, RowsAt K H vs es → es[k]? = some e → ∃ v, vs[k]? = some v ∧ ExAt K H e v
  | [], [], _, _, _, h => by simp at h
  | v :: vs, e' :: es, 0, e, ⟨x, r⟩, h => by
    have : e' = e := Option.some.inj h
    subst this
    exact ⟨v, rfl, x⟩
  | v :: vs, e' :: es, k + 1, e, ⟨x, r⟩, h => RowsAt.get (k := k) r h
def pairUp : List Ex → List Ex
  | a :: b :: r => .two .sum a b :: pairUp r
  | _ => []
theorem pairUp_get : ∀ {es : List Ex} {k : Nat} {a b : Ex}, es[2 * k]? = some a → es[2 * k + 1]? = some b → (pairUp es)[k]? = some (.two .sum a b)
  | [], k, _, _, h, _ => by simp at h
  | [_], k, _, _, _, h => by
    have := (List.getElem?_eq_some_iff.mp h).1
    rw [List.length_singleton] at this
    omega
  | x :: y :: r, 0, a, b, h, h2 => by
    have e1 : x = a := Option.some.inj h
    have e2 : y = b := Option.some.inj h2
    rw [← e1, ← e2]
    rfl
  | x :: y :: r, k + 1, a, b, h, h2 => by
    have h : r[2 * k]? = some a := h
    have h2 : r[2 * k + 1]? = some b := h2
    exact pairUp_get (es := r) (k := k) h h2
theorem pairUp_sum (rs ss : List Int) : ∀ {es : List Ex} {k : Nat}, es.length = 2 * k → ((pairUp es).map (wo rs ss)).sum = (es.map (wo rs ss)).sum ∧ (pairUp es).length = k
  | [], k, h => by
    rw [List.length_nil] at h
    exact ⟨rfl, by show 0 = k; omega⟩
  | [_], k, h => by
    rw [List.length_singleton] at h
    omega
  | x :: y :: r, k, h => by
    rw [List.length_cons, List.length_cons] at h
    obtain ⟨h1, h2⟩ := pairUp_sum rs ss (es := r) (k := k - 1) (by omega)
    refine ⟨?_, ?_⟩
    · show (wo rs ss (.two .sum x y) :: (pairUp r).map (wo rs ss)).sum = (wo rs ss x :: wo rs ss y :: r.map (wo rs ss)).sum
      rw [List.sum_cons, List.sum_cons, List.sum_cons, h1]
      show wo rs ss x + wo rs ss y + _ = _
      omega
    · show (pairUp r).length + 1 = k
      omega
theorem pairUp_ok {many d : Nat} : ∀ {es : List Ex}, (∀ e ∈ es, ExOk many e ∧ e.dep ≤ d) → ∀ e ∈ pairUp es, ExOk many e ∧ e.dep ≤ d + 1
  | [], _, e, h => by cases h
  | [_], _, e, h => by cases h
  | x :: y :: r, h, e, he => by
    have hx := h x List.mem_cons_self
    have hy := h y (List.mem_cons_of_mem _ List.mem_cons_self)
    rcases List.mem_cons.mp he with rfl | he
    · refine ⟨⟨hx.1, hy.1⟩, ?_⟩
      show max x.dep y.dep + 1 ≤ d + 1
      omega
    · exact pairUp_ok (es := r) (fun e he => h e (List.mem_cons_of_mem _ (List.mem_cons_of_mem _ he))) e he
def whn (j : Nat) (z : Int) : Ex := .whr j z (.fig 0) (.fig 1)
theorem count_sum (rs ss : List Int) (j : Nat) (h0 : 0 < ss.sum) : ∀ fs : List Int, ((fs.map (whn j)).map (wo rs ss)).sum = ((fs.filter fun z => decide (z ≤ 1000 * ss.getD j 0 / ss.sum)).length : Int) * ss.sum
  | [] => by simp
  | z :: fs => by
    have ih := count_sum rs ss j h0 fs
    have hm : 1000 * ss.getD j 0 / ss.sum < z ↔ 1000 * ss.getD j 0 < z * ss.sum := Int.ediv_lt_iff_lt_mul h0
    show (wo rs ss (whn j z) :: (fs.map (whn j)).map (wo rs ss)).sum = _
    rw [List.sum_cons, ih]
    show (if 1000 * ss.getD j 0 < z * ss.sum then 0 * ss.sum else 1 * ss.sum) + _ = _
    by_cases c : z ≤ 1000 * ss.getD j 0 / ss.sum
    · rw [List.filter_cons_of_pos (by rw [decide_eq_true c]), if_neg (fun q => by have := hm.mpr q; omega), List.length_cons, Int.natCast_succ, Int.add_mul]
      omega
    · rw [List.filter_cons_of_neg (by rw [decide_eq_false c]; exact Bool.false_ne_true), if_pos (hm.mp (by omega))]
      omega
def spCount (K : PySem.W.Frag) : Sp := fun vs H Q _ => ∃ (a : Addr) (many n : Nat) (s : V) (ss : List Int), vs = [.ref a, .int (many : Int), s] ∧ 2 ≤ many ∧ many ≤ 3 ∧ HandAt H a n ∧ n ≤ 999990000 ∧ ShAt K H many ss s ∧
  ∀ H', But a H H' → HandAt H' a (n + 10) → Q (.bl true) H'
end NG

namespace NG
open PySem PySem.Spec PyProof.Rows L2

/-! ### more rules -/
theorem pgtK {X : Cx} (K : PySem.W.Frag) {es : List Expr} {k : Nat} {t : TGs} {n : Nat} {pos : Pos} (hc : X.calm = true) (h : PGs X es t)
    (hn : (assignEach es X.env).length = n := by rfl) (hst : (assignEach es X.env).findIdx? (·.1) = none := by rfl) (hK : X.K = K := by rfl) : PG X (.Tuple es k pos) (gTup K n t) := by
  subst hK
  exact pg_tup hc h hn hst
theorem inK {X : Cx} (K : PySem.W.Frag) (h : X.K = K := by rfl) : OpR X (compareOp .In) (rIn K false) := by
  subst h
  exact op_in_seq
theorem isiK {X : Cx} (K : PySem.W.Frag) (h : X.K = K := by rfl) : CallR X (.builtin "isinstance") (rIsi K) := by
  subst h
  exact call_isi
theorem walk_zipT {K : PySem.W.Frag} {a b : Addr} {xs ys : List V} {n : Nat} (hx : xs.length = n) (hy : ys.length = n) : Walk (RZ.ItzT K a b) n (fun H => SqT K H a xs ∧ SqT K H b ys) (YPair (fun i => xs[i]?) (fun i => ys[i]?)) := by
  refine ⟨fun i H hi q => ?_, fun H q => ⟨xs, ys, q.1, q.2, .inl (by omega)⟩, fun i H v H' hi q y => ?_⟩
  · exact ⟨xs, ys, xs[i]'(by omega), ys[i]'(by omega), q.1, q.2, List.getElem?_eq_getElem _, List.getElem?_eq_getElem _⟩
  · obtain ⟨T, x, z, h1, h2, h3, h4, h5⟩ := y
    exact ⟨T, x, z, h1, h2, h3, h4 xs q.1, h5 ys q.2⟩
def tChain3 (r r' r'' : R2) (ta tb tc td : TE) : TT := fun σ H Q => ta σ H fun x H1 => tb σ H1 fun y H2 => r x y H2 fun z H3 => ∃ k, z = .bl k ∧
  (if k = true then tc σ H3 fun u H4 => r' y u H4 fun z' H5 => ∃ k', z' = .bl k' ∧ (if k' = true then td σ H5 fun v H6 => r'' u v H6 fun z'' H7 => ∃ k'', z'' = .bl k'' ∧ Q k'' H7 else Q false H5) else Q false H3)
theorem pt_chain3 {X : Cx} {a b c d : Expr} {ta tb tc td : TE} {pos : Pos} {o1 o2 o3 : CmpOp} {r1 r2 r3 : R2} (h1 : OpR X (compareOp o1) r1) (h2 : OpR X (compareOp o2) r2) (h3 : OpR X (compareOp o3) r3) (ha : PE X a ta) (hb : PE X b tb) (hc : PE X c tc) (hd : PE X d td)
    (hm : lastMarks [o1, o2, o3] [b, c, d] = false := by with_unfolding_all rfl) : PT X (.Compare a [o1, o2, o3] [b, c, d] pos) (tChain3 r1 r2 r3 ta tb tc td) := by
  refine ⟨fun pins s σ H Q I h => isTrue_chain (thn (ha.run pins s σ H _ I h) fun v1 s1 ⟨x, H1, I1, e1, q1⟩ => test_link (thn (hb.run pins s1 σ H1 _ I1 q1) fun v2 s2 ⟨y, H2, I2, e2, q2⟩ => thn (h1 pins s2 σ H2 x y v1 v2 _ I2 e1 e2 q2) fun v3 s3 ⟨z, H3, I3, e3, k, ek, q3⟩ => ?_)) hm⟩
  subst ek
  cases e3
  refine wpAny_truthy_bool ?_
  cases k with
  | false => exact ite_ff ⟨H3, I3, q3⟩
  | true =>
    refine ite_tt (test_link (thn (hc.run pins s3 σ H3 _ I3 q3) fun v4 s4 ⟨u, H4, I4, e4, q4⟩ => thn (h2 pins s4 σ H4 y u v2 v4 _ I4 e2 e4 q4) fun v5 s5 ⟨z', H5, I5, e5, k', ek', q5⟩ => ?_))
    subst ek'
    cases e5
    refine wpAny_truthy_bool ?_
    cases k' with
    | false => exact ite_ff ⟨H5, I5, q5⟩
    | true =>
      refine ite_tt (test_last (thn (hd.run pins s5 σ H5 _ I5 q5) fun v6 s6 ⟨v, H6, I6, e6, q6⟩ => thn (h3 pins s6 σ H6 u v v4 v6 _ I6 e4 e6 q6) fun v7 s7 ⟨z'', H7, I7, e7, k'', ek'', q7⟩ => ?_))
      subst ek''
      cases e7
      exact wpAny_truthy_bool ⟨H7, I7, q7⟩

/-! ### the shapes of words -/
def shapeOf : Ex → List Str
  | .fig _ => ["figure"]
  | .reg _ => ["place"]
  | .share _ => ["sign"]
  | .two _ _ _ => ["part", "part"]
  | .times _ _ => ["factor", "part"]
  | .by _ _ => ["place", "part"]
  | .when _ _ _ _ => ["place", "figure", "part", "part"]
  | .whr _ _ _ _ => ["sign", "line", "part", "part"]
def wordOf : Ex → Str
  | .fig _ => "fig"
  | .reg _ => "reg"
  | .share _ => "share"
  | .two w _ _ => wn w
  | .times _ _ => "times"
  | .by _ _ => "by"
  | .when _ _ _ _ => "when"
  | .whr _ _ _ _ => "where"
def Shapes (K : PySem.W.Frag) (w : World) (d : Addr) : Prop := ∀ e : Ex, ∃ q, KDct K w d (wordOf e) (.ref q) ∧ ∀ H, SqT K H q ((shapeOf e).map V.str)
def Ex.kids : Ex → List Ex
  | .fig _ => []
  | .reg _ => []
  | .share _ => []
  | .two _ a b => [a, b]
  | .times _ a => [a]
  | .by _ a => [a]
  | .when _ _ a b => [a, b]
  | .whr _ _ a b => [a, b]
/-- the items whose kind is a part -/
def pk : List Str → List V → List V
  | k :: ks, v :: vs => if V.str k = V.str "part" then v :: pk ks vs else pk ks vs
  | _, _ => []
theorem pk_snoc : ∀ {ks : List Str} {vs : List V} {i : Nat} {k : Str} {v : V}, ks[i]? = some k → vs[i]? = some v → pk (ks.take (i + 1)) (vs.take (i + 1)) = pk (ks.take i) (vs.take i) ++ (if V.str k = V.str "part" then [v] else [])
  | [], _, i, _, _, h, _ => by simp at h
  | _ :: _, [], i, _, _, _, h => by simp at h
  | k0 :: ks, v0 :: vs, 0, k, v, h, h2 => by
    have e1 : k0 = k := Option.some.inj h
    have e2 : v0 = v := Option.some.inj h2
    subst e1 e2
    show (if V.str k0 = V.str "part" then v0 :: pk (ks.take 0) (vs.take 0) else pk (ks.take 0) (vs.take 0)) = _
    split <;> rfl
  | k0 :: ks, v0 :: vs, i + 1, k, v, h, h2 => by
    have ih := pk_snoc (ks := ks) (vs := vs) (i := i) h h2
    show (if V.str k0 = V.str "part" then v0 :: pk (ks.take (i + 1)) (vs.take (i + 1)) else pk (ks.take (i + 1)) (vs.take (i + 1))) = (if V.str k0 = V.str "part" then v0 :: pk (ks.take i) (vs.take i) else pk (ks.take i) (vs.take i)) ++ _
    rw [ih]
    split <;> rfl
/-- how an expression lies: its word, then what belongs there -/
theorem ExAt.lies {K : PySem.W.Frag} {H : Hp} : ∀ {e : Ex} {v : V}, ExAt K H e v → ∃ (p : Addr) (xs : List V), v = .ref p ∧ SqT K H p (.str (wordOf e) :: xs) ∧ xs.length = (shapeOf e).length ∧ xs.length ≤ 4 ∧ 0 < xs.length ∧ RowsAt K H (pk (shapeOf e) xs) e.kids
  | .fig _, _, ⟨p, e, q⟩ => ⟨p, _, e, q, rfl, by simp, by simp, trivial⟩
  | .reg _, _, ⟨p, e, q⟩ => ⟨p, _, e, q, rfl, by simp, by simp, trivial⟩
  | .share _, _, ⟨p, e, q⟩ => ⟨p, _, e, q, rfl, by simp, by simp, trivial⟩
  | .two _ _ _, _, ⟨p, x, y, e, q, a, b⟩ => ⟨p, _, e, q, rfl, by simp, by simp, a, b, trivial⟩
  | .times _ _, _, ⟨p, x, e, q, a⟩ => ⟨p, _, e, q, rfl, by simp, by simp, a, trivial⟩
  | .by _ _, _, ⟨p, x, e, q, a⟩ => ⟨p, _, e, q, rfl, by simp, by simp, a, trivial⟩
  | .when _ _ _ _, _, ⟨p, x, y, e, q, a, b⟩ => ⟨p, _, e, q, rfl, by simp, by simp, a, b, trivial⟩
  | .whr _ _ _ _, _, ⟨p, x, y, e, q, a, b⟩ => ⟨p, _, e, q, rfl, by simp, by simp, a, b, trivial⟩
theorem pk_len : ∀ (ks : List Str) (vs : List V), (pk ks vs).length ≤ vs.length
  | [], vs => by
    unfold pk
    exact Nat.zero_le _
  | _ :: _, [] => Nat.le_refl _
  | k :: ks, v :: vs => by
    have := pk_len ks vs
    unfold pk
    split
    · rw [List.length_cons, List.length_cons]
      omega
    · rw [List.length_cons]
      omega

/-! ### spans -/
def mn (x y : Int) : Int := if y < x then y else x
def mx (x y : Int) : Int := if y > x then y else x
theorem mn_le (x y : Int) : mn x y ≤ x ∧ mn x y ≤ y := by unfold mn; split <;> omega
theorem le_mx (x y : Int) : x ≤ mx x y ∧ y ≤ mx x y := by unfold mx; split <;> omega
theorem mn_or (x y : Int) : mn x y = x ∨ mn x y = y := by unfold mn; split <;> simp
theorem mx_or (x y : Int) : mx x y = x ∨ mx x y = y := by unfold mx; split <;> simp
def ab (x : Int) : Int := if x < 0 then -x else x
def js : W4 → Int × Int → Int × Int → Int × Int
  | .sum, x, y => (x.1 + y.1, x.2 + y.2)
  | .less, x, y => (x.1 - y.2, x.2 - y.1)
  | .least, x, y => (mn x.1 y.1, mn x.2 y.2)
  | .most, x, y => (mx x.1 y.1, mx x.2 y.2)
def spn : Ex → Int × Int
  | .fig c => (c, c)
  | .reg _ => (-1000, 1000)
  | .share _ => (0, 1000)
  | .two w a b => js w (spn a) (spn b)
  | .times f a => (mn (f * (spn a).1) (f * (spn a).2), mx (f * (spn a).1) (f * (spn a).2))
  | .by _ a => (-1000 * mx (ab (spn a).1) (ab (spn a).2), 1000 * mx (ab (spn a).1) (ab (spn a).2))
  | .when _ _ a b => (mn (spn a).1 (spn b).1, mx (spn a).2 (spn b).2)
  | .whr _ _ a b => (mn (spn a).1 (spn b).1, mx (spn a).2 (spn b).2)
def SpAt (K : PySem.W.Frag) (H : Hp) (s : Int × Int) (v : V) : Prop := ∃ p, v = .ref p ∧ SqT K H p [.int s.1, .int s.2]
def SpsAt (K : PySem.W.Frag) (H : Hp) : List V → List (Int × Int) → Prop
  | [], [] => True
  | v :: vs, s :: ss => SpAt K H s v ∧ SpsAt K H vs ss
  | _, _ => False
theorem SpsAt.imp {K : PySem.W.Frag} {H H' : Hp} (h : ∀ p xs, SqT K H p xs → SqT K H' p xs) : ∀ {vs : List V} {ss : List (Int × Int)}, SpsAt K H vs ss → SpsAt K H' vs ss
  | [], [], _ => trivial
  | _ :: _, _ :: _, ⟨⟨p, e, q⟩, r⟩ => ⟨⟨p, e, h _ _ q⟩, SpsAt.imp h r⟩
theorem SpsAt.snoc {K : PySem.W.Frag} {H : Hp} {v : V} {s : Int × Int} (x : SpAt K H s v) : ∀ {vs : List V} {ss : List (Int × Int)}, SpsAt K H vs ss → SpsAt K H (vs ++ [v]) (ss ++ [s])
  | [], [], _ => ⟨x, trivial⟩
  | _ :: _, _ :: _, ⟨y, r⟩ => ⟨y, SpsAt.snoc x r⟩
theorem SpsAt.len {K : PySem.W.Frag} {H : Hp} : ∀ {vs : List V} {ss : List (Int × Int)}, SpsAt K H vs ss → vs.length = ss.length
  | [], [], _ => rfl
  | _ :: _, _ :: _, ⟨_, r⟩ => by rw [List.length_cons, List.length_cons, r.len]

theorem int_at {ns : List Int} {i : Nat} {v : V} (h : (ns.map V.int)[i]? = some v) : ∃ z : Int, v = .int z ∧ ns[i]? = some z := by
  rw [List.getElem?_map] at h
  cases e : ns[i]? with
  | none => rw [e] at h; cases h
  | some z => rw [e] at h; exact ⟨z, (Option.some.inj h).symm, rfl⟩
theorem SpsAt.one {K : PySem.W.Frag} {H : Hp} {us : List V} {s : Int × Int} (h : SpsAt K H us [s]) : ∃ p, us = [.ref p] ∧ SqT K H p [.int s.1, .int s.2] := by
  cases us with
  | nil => exact h.elim
  | cons u r =>
    cases r with
    | nil =>
      obtain ⟨⟨p, e, q⟩, _⟩ := h
      exact ⟨p, by rw [e], q⟩
    | cons _ _ => exact h.2.elim
theorem SpsAt.pair {K : PySem.W.Frag} {H : Hp} {us : List V} {s t : Int × Int} (h : SpsAt K H us [s, t]) : ∃ p q, us = [.ref p, .ref q] ∧ SqT K H p [.int s.1, .int s.2] ∧ SqT K H q [.int t.1, .int t.2] := by
  cases us with
  | nil => exact h.elim
  | cons u r =>
    obtain ⟨⟨p, e, q⟩, h2⟩ := h
    obtain ⟨p2, e2, q2⟩ := SpsAt.one h2
    exact ⟨p, p2, by rw [e, e2], q, q2⟩
theorem put_sqt {K : PySem.W.Frag} {H : Hp} {D p : Addr} {us us' xs : List V} (h : H D = some (.lst us)) (q : SqT K H p xs) : SqT K (upd H D (.lst us')) p xs := by
  rcases q with (q | ⟨o, q⟩) | q
  · exact .inl (.inl (by rw [upd_ne (ne_of q h (by intro z; cases z))]; exact q))
  · exact .inl (.inr ⟨o, by rw [upd_ne (ne_of q h (by intro z; cases z))]; exact q⟩)
  · exact .inr q
theorem RowsAt.get' {K : PySem.W.Frag} {H : Hp} : ∀ {vs : List V} {es : List Ex} {k : Nat} {v : V}, RowsAt K H vs es → vs[k]? = some v → ∃ e, es[k]? = some e ∧ ExAt K H e v
  | [], [], _, _, _, h => by simp at h
  | v' :: vs, e :: es, 0, v, ⟨x, r⟩, h => by
    have : v' = v := Option.some.inj h
    subst this
    exact ⟨e, rfl, x⟩
  | v' :: vs, e :: es, k + 1, v, ⟨x, r⟩, h => RowsAt.get' (k := k) r h
theorem mn_of {m a b : Int} (h : m ∈ [a, b]) (hl : ∀ y ∈ [a, b], m ≤ y) : m = mn a b := by
  have h1 := hl a (by simp)
  have h2 := hl b (by simp)
  simp only [List.mem_cons, List.not_mem_nil, or_false] at h
  unfold mn
  split <;> omega
theorem mx_of {m a b : Int} (h : m ∈ [a, b]) (hl : ∀ y ∈ [a, b], y ≤ m) : m = mx a b := by
  have h1 := hl a (by simp)
  have h2 := hl b (by simp)
  simp only [List.mem_cons, List.not_mem_nil, or_false] at h
  unfold mx
  split <;> omega

/-! ### promises -/
def spParts (K : PySem.W.Frag) : Sp := fun vs H Q _ => ∃ (v : V) (e : Ex), vs = [v] ∧ ExAt K H e v ∧ ∀ H' p xs, Same H H' → H p = none → H' p = some (.lst xs) → RowsAt K H' xs e.kids → Q (.ref p) H'
def spJoinS (K : PySem.W.Frag) : Sp := fun vs H Q _ => ∃ (e : Ex) (x y : V) (s t : Int × Int), vs = [.str (wordOf e), x, y] ∧ SpAt K H s x ∧ SpAt K H t y ∧
  ((∃ w a b, e = .two w a b ∧ ∀ H' v, Same H H' → SpAt K H' (js w s t) v → Q v H') ∨ ((∃ i c a b, e = .when i c a b) ∨ (∃ i c a b, e = .whr i c a b)) ∧ ∀ H' v, Same H H' → SpAt K H' (mn s.1 t.1, mx s.2 t.2) v → Q v H')
def spSpan (K : PySem.W.Frag) (n : Nat) : Sp := fun vs H Q _ => ∃ (v : V) (e : Ex) (many : Nat), vs = [v] ∧ ExAt K H e v ∧ ExOk many e ∧ e.dep ≤ n ∧ ∀ H' u, Same H H' → SpAt K H' (spn e) u → Q u H'
theorem kids_dep : ∀ (e : Ex) (k : Ex), k ∈ e.kids → k.dep + 1 ≤ e.dep
  | .fig _, k, h => by cases h
  | .reg _, k, h => by cases h
  | .share _, k, h => by cases h
  | .two w0 a b, k, h => by
    simp only [Ex.kids, List.mem_cons, List.not_mem_nil, or_false] at h
    have e : Ex.dep (.two w0 a b) = max a.dep b.dep + 1 := rfl
    rw [e]
    rcases h with rfl | rfl <;> omega
  | .times _ a, k, h => by
    simp only [Ex.kids, List.mem_cons, List.not_mem_nil, or_false] at h
    subst h
    exact Nat.le_refl _
  | .by _ a, k, h => by
    simp only [Ex.kids, List.mem_cons, List.not_mem_nil, or_false] at h
    subst h
    exact Nat.le_refl _
  | .when i0 c0 a b, k, h => by
    simp only [Ex.kids, List.mem_cons, List.not_mem_nil, or_false] at h
    have e : Ex.dep (.when i0 c0 a b) = max a.dep b.dep + 1 := rfl
    rw [e]
    rcases h with rfl | rfl <;> omega
  | .whr i0 c0 a b, k, h => by
    simp only [Ex.kids, List.mem_cons, List.not_mem_nil, or_false] at h
    have e : Ex.dep (.whr i0 c0 a b) = max a.dep b.dep + 1 := rfl
    rw [e]
    rcases h with rfl | rfl <;> omega
theorem kids_ok {many : Nat} : ∀ (e : Ex) (k : Ex), ExOk many e → k ∈ e.kids → ExOk many k
  | .fig _, k, _, h => by cases h
  | .reg _, k, _, h => by cases h
  | .share _, k, _, h => by cases h
  | .two _ a b, k, o, h => by
    simp only [Ex.kids, List.mem_cons, List.not_mem_nil, or_false] at h
    rcases h with rfl | rfl
    · exact o.1
    · exact o.2
  | .times _ a, k, o, h => by
    simp only [Ex.kids, List.mem_cons, List.not_mem_nil, or_false] at h
    subst h
    exact o.2
  | .by _ a, k, o, h => by
    simp only [Ex.kids, List.mem_cons, List.not_mem_nil, or_false] at h
    subst h
    exact o.2
  | .when _ _ a b, k, o, h => by
    simp only [Ex.kids, List.mem_cons, List.not_mem_nil, or_false] at h
    rcases h with rfl | rfl
    · exact o.2.2.1
    · exact o.2.2.2
  | .whr _ _ a b, k, o, h => by
    simp only [Ex.kids, List.mem_cons, List.not_mem_nil, or_false] at h
    rcases h with rfl | rfl
    · exact o.2.2.1
    · exact o.2.2.2
end NG

namespace NG
open PySem PySem.Spec PyProof.Rows L2
/-! ### what stands around an expression -/
inductive Cx1 where
  | l (w : W4) (x : Ex) | r (w : W4) (x : Ex) | times (f : Int) | by (i : Nat)
  | whenL (i : Nat) (c : Int) (x : Ex) | whenR (i : Nat) (c : Int) (x : Ex) | whrL (j : Nat) (c : Int) (x : Ex) | whrR (j : Nat) (c : Int) (x : Ex)
def Cx1.put : Cx1 → Ex → Ex
  | .l w x, e => .two w e x
  | .r w x, e => .two w x e
  | .times f, e => .times f e
  | .by i, e => .by i e
  | .whenL i c x, e => .when i c e x
  | .whenR i c x, e => .when i c x e
  | .whrL j c x, e => .whr j c e x
  | .whrR j c x, e => .whr j c x e
def Cx1.lay (u : V) : Cx1 → List V × List V
  | .l w _ => ([.str (wn w)], [u])
  | .r w _ => ([.str (wn w), u], [])
  | .times f => ([.str "times", .int f], [])
  | .by i => ([.str "by", .int (i : Int)], [])
  | .whenL i c _ => ([.str "when", .int (i : Int), .int c], [u])
  | .whenR i c _ => ([.str "when", .int (i : Int), .int c, u], [])
  | .whrL j c _ => ([.str "where", .int (j : Int), .int c], [u])
  | .whrR j c _ => ([.str "where", .int (j : Int), .int c, u], [])
def Cx1.leaf (K : PySem.W.Frag) (H : Hp) (u : V) : Cx1 → Prop
  | .l _ x => ExAt K H x u
  | .r _ x => ExAt K H x u
  | .times _ => True
  | .by _ => True
  | .whenL _ _ x => ExAt K H x u
  | .whenR _ _ x => ExAt K H x u
  | .whrL _ _ x => ExAt K H x u
  | .whrR _ _ x => ExAt K H x u
def Cx1.ok (many : Nat) : Cx1 → Prop
  | .l _ x => ExOk many x ∧ x.dep ≤ 1
  | .r _ x => ExOk many x ∧ x.dep ≤ 1
  | .times f => -9 ≤ f ∧ f ≤ 9
  | .by i => i < 4
  | .whenL i c x => i < 4 ∧ (-1000 ≤ c ∧ c ≤ 1000) ∧ ExOk many x ∧ x.dep ≤ 1
  | .whenR i c x => i < 4 ∧ (-1000 ≤ c ∧ c ≤ 1000) ∧ ExOk many x ∧ x.dep ≤ 1
  | .whrL j c x => j < many ∧ (1 ≤ c ∧ c ≤ 1000) ∧ ExOk many x ∧ x.dep ≤ 1
  | .whrR j c x => j < many ∧ (1 ≤ c ∧ c ≤ 1000) ∧ ExOk many x ∧ x.dep ≤ 1
def CtxAt (K : PySem.W.Frag) (H : Hp) (c : Cx1) (v : V) : Prop := ∃ (p pa pr : Addr) (u : V), v = .ref p ∧ SqT K H p [.ref pa, .ref pr] ∧ SqT K H pa (c.lay u).1 ∧ SqT K H pr (c.lay u).2 ∧ c.leaf K H u
theorem CtxAt.imp {K : PySem.W.Frag} {H H' : Hp} {c : Cx1} {v : V} (x : CtxAt K H c v) (h : ∀ p xs, SqT K H p xs → SqT K H' p xs) : CtxAt K H' c v := by
  obtain ⟨p, pa, pr, u, e, q1, q2, q3, lf⟩ := x
  refine ⟨p, pa, pr, u, e, h _ _ q1, h _ _ q2, h _ _ q3, ?_⟩
  cases c with
  | l w x => exact ExAt.imp h lf
  | r w x => exact ExAt.imp h lf
  | times f => trivial
  | «by» i => trivial
  | whenL i c x => exact ExAt.imp h lf
  | whenR i c x => exact ExAt.imp h lf
  | whrL i c x => exact ExAt.imp h lf
  | whrR i c x => exact ExAt.imp h lf
def CtxsAt (K : PySem.W.Frag) (H : Hp) : List V → List Cx1 → Prop
  | [], [] => True
  | v :: vs, c :: cs => CtxAt K H c v ∧ CtxsAt K H vs cs
  | _, _ => False
theorem CtxsAt.imp {K : PySem.W.Frag} {H H' : Hp} (h : ∀ p xs, SqT K H p xs → SqT K H' p xs) : ∀ {vs : List V} {cs : List Cx1}, CtxsAt K H vs cs → CtxsAt K H' vs cs
  | [], [], _ => trivial
  | _ :: _, _ :: _, ⟨x, r⟩ => ⟨x.imp h, CtxsAt.imp h r⟩
theorem CtxsAt.len {K : PySem.W.Frag} {H : Hp} : ∀ {vs : List V} {cs : List Cx1}, CtxsAt K H vs cs → vs.length = cs.length
  | [], [], _ => rfl
  | _ :: _, _ :: _, ⟨_, r⟩ => by rw [List.length_cons, List.length_cons, r.len]
theorem CtxsAt.snoc {K : PySem.W.Frag} {H : Hp} {v : V} {c : Cx1} (x : CtxAt K H c v) : ∀ {vs : List V} {cs : List Cx1}, CtxsAt K H vs cs → CtxsAt K H (vs ++ [v]) (cs ++ [c])
  | [], [], _ => ⟨x, trivial⟩
  | _ :: _, _ :: _, ⟨y, r⟩ => ⟨y, CtxsAt.snoc x r⟩
theorem CtxsAt.get' {K : PySem.W.Frag} {H : Hp} : ∀ {vs : List V} {cs : List Cx1} {k : Nat} {v : V}, CtxsAt K H vs cs → vs[k]? = some v → ∃ c, cs[k]? = some c ∧ CtxAt K H c v
  | [], [], _, _, _, h => by simp at h
  | v' :: vs, e :: es, 0, v, ⟨x, r⟩, h => by
    have : v' = v := Option.some.inj h
    subst this
    exact ⟨e, rfl, x⟩
  | v' :: vs, e :: es, k + 1, v, ⟨x, r⟩, h => CtxsAt.get' (k := k) r h
theorem put_at {K : PySem.W.Frag} {H : Hp} {c : Cx1} {u v : V} {e : Ex} {p : Addr} (hp : SqT K H p ((c.lay u).1 ++ [v] ++ (c.lay u).2)) (lf : c.leaf K H u) (he : ExAt K H e v) : ExAt K H (c.put e) (.ref p) := by
  cases c with
  | l w x => exact ⟨p, v, u, rfl, hp, he, lf⟩
  | r w x => exact ⟨p, u, v, rfl, hp, lf, he⟩
  | times f => exact ⟨p, v, rfl, hp, he⟩
  | «by» i => exact ⟨p, v, rfl, hp, he⟩
  | whenL i c x => exact ⟨p, v, u, rfl, hp, he, lf⟩
  | whenR i c x => exact ⟨p, u, v, rfl, hp, lf, he⟩
  | whrL i c x => exact ⟨p, v, u, rfl, hp, he, lf⟩
  | whrR i c x => exact ⟨p, u, v, rfl, hp, lf, he⟩
theorem put_ok {many : Nat} {c : Cx1} {e : Ex} (o : c.ok many) (oe : ExOk many e) : ExOk many (c.put e) := by
  cases c with
  | l w x => exact ⟨oe, o.1⟩
  | r w x => exact ⟨o.1, oe⟩
  | times f => exact ⟨o, oe⟩
  | «by» i => exact ⟨o, oe⟩
  | whenL i c x => exact ⟨o.1, o.2.1, oe, o.2.2.1⟩
  | whenR i c x => exact ⟨o.1, o.2.1, o.2.2.1, oe⟩
  | whrL i c x => exact ⟨o.1, o.2.1, oe, o.2.2.1⟩
  | whrR i c x => exact ⟨o.1, o.2.1, o.2.2.1, oe⟩
theorem dep_pos (e : Ex) : 1 ≤ e.dep := by cases e <;> (unfold Ex.dep; omega)
theorem put_dep {many : Nat} {c : Cx1} {e : Ex} (o : c.ok many) : (c.put e).dep ≤ e.dep + 1 := by
  have he := dep_pos e
  cases c with
  | l w x => show max e.dep x.dep + 1 ≤ _; have := o.2; omega
  | r w x => show max x.dep e.dep + 1 ≤ _; have := o.2; omega
  | times f => exact Nat.le_refl _
  | «by» i => exact Nat.le_refl _
  | whenL i c x => show max e.dep x.dep + 1 ≤ _; have := o.2.2.2; omega
  | whenR i c x => show max x.dep e.dep + 1 ≤ _; have := o.2.2.2; omega
  | whrL i c x => show max e.dep x.dep + 1 ≤ _; have := o.2.2.2; omega
  | whrR i c x => show max x.dep e.dep + 1 ≤ _; have := o.2.2.2; omega
def putAll (cs : List Cx1) (e : Ex) : Ex := cs.foldl (fun e c => c.put e) e
theorem putAll_ok {many : Nat} : ∀ {cs : List Cx1} {e : Ex}, (∀ c ∈ cs, c.ok many) → ExOk many e → ExOk many (putAll cs e)
  | [], _, _, h => h
  | c :: cs, e, o, h => putAll_ok (cs := cs) (e := c.put e) (fun c' h' => o c' (List.mem_cons_of_mem _ h')) (put_ok (o c List.mem_cons_self) h)
theorem putAll_dep {many : Nat} : ∀ {cs : List Cx1} {e : Ex}, (∀ c ∈ cs, c.ok many) → (putAll cs e).dep ≤ e.dep + cs.length
  | [], _, _ => Nat.le_refl _
  | c :: cs, e, o => by
    have h1 := putAll_dep (cs := cs) (e := c.put e) (fun c' h' => o c' (List.mem_cons_of_mem _ h'))
    have h2 := put_dep (e := e) (o c List.mem_cons_self)
    show (putAll cs (c.put e)).dep ≤ _
    rw [List.length_cons]
    omega
def fac1 (rs : List Int) (F : Int) : Cx1 → Int
  | .times f => F * f
  | .by i => F * rs.getD i 0
  | .r .less _ => 0 - F
  | _ => F
def fac (rs : List Int) (cs : List Cx1) : Int := cs.foldl (fac1 rs) 1

/-! ### a greater part put in -/
def Btw (d m : Int) : Prop := (0 ≤ d ∧ d ≤ m) ∨ (m ≤ d ∧ d ≤ 0)
theorem btw_mul {f d m : Int} (h : Btw d m) : Btw (f * d) (f * m) := by
  rcases Int.le_total 0 f with hf | hf
  · rcases h with ⟨h1, h2⟩ | ⟨h1, h2⟩
    · exact .inl ⟨Int.mul_nonneg hf h1, Int.mul_le_mul_of_nonneg_left h2 hf⟩
    · exact .inr ⟨Int.mul_le_mul_of_nonneg_left h1 hf, Int.mul_nonpos_of_nonneg_of_nonpos hf h2⟩
  · rcases h with ⟨h1, h2⟩ | ⟨h1, h2⟩
    · exact .inr ⟨Int.mul_le_mul_of_nonpos_left hf h2, Int.mul_nonpos_of_nonpos_of_nonneg hf h1⟩
    · exact .inl ⟨Int.mul_nonneg_of_nonpos_of_nonpos hf h2, Int.mul_le_mul_of_nonpos_left hf h1⟩
theorem btw_zero {m : Int} : Btw 0 m := by
  unfold Btw
  omega
theorem btw_jw {d m x y z : Int} (w : W4) (h : Btw d m) (e : d = y - x) (hw : w ≠ .less) : Btw (jw w y z - jw w x z) m := by
  unfold Btw at *
  cases w with
  | sum => simp only [jw]; omega
  | less => exact absurd rfl hw
  | least => simp only [jw]; split <;> split <;> omega
  | most => simp only [jw]; split <;> split <;> omega
theorem btw_jw' {d m x y z : Int} (w : W4) (h : Btw d m) (e : d = y - x) (hw : w ≠ .less) : Btw (jw w z y - jw w z x) m := by
  unfold Btw at *
  cases w with
  | sum => simp only [jw]; omega
  | less => exact absurd rfl hw
  | least => simp only [jw]; split <;> split <;> omega
  | most => simp only [jw]; split <;> split <;> omega
theorem btw_step {rs ss : List Int} {c : Cx1} {e1 e2 : Ex} {F P : Int} (h : Btw (wo rs ss e2 - wo rs ss e1) (F * P)) : Btw (wo rs ss (c.put e2) - wo rs ss (c.put e1)) (fac1 rs F c * P) := by
  cases c with
  | l w x =>
    cases w with
    | less =>
      show Btw ((wo rs ss e2 - wo rs ss x) - (wo rs ss e1 - wo rs ss x)) (F * P)
      rw [show (wo rs ss e2 - wo rs ss x) - (wo rs ss e1 - wo rs ss x) = wo rs ss e2 - wo rs ss e1 by omega]
      exact h
    | sum => exact btw_jw .sum h rfl (by simp)
    | least => exact btw_jw .least h rfl (by simp)
    | most => exact btw_jw .most h rfl (by simp)
  | r w x =>
    cases w with
    | less =>
      show Btw ((wo rs ss x - wo rs ss e2) - (wo rs ss x - wo rs ss e1)) ((0 - F) * P)
      rw [Int.sub_mul, Int.zero_mul]
      unfold Btw at *
      omega
    | sum => exact btw_jw' .sum h rfl (by simp)
    | least => exact btw_jw' .least h rfl (by simp)
    | most => exact btw_jw' .most h rfl (by simp)
  | times f =>
    show Btw (f * wo rs ss e2 - f * wo rs ss e1) (F * f * P)
    rw [← Int.mul_sub, Int.mul_comm F f, Int.mul_assoc]
    exact btw_mul h
  | «by» i =>
    show Btw (rs.getD i 0 * wo rs ss e2 - rs.getD i 0 * wo rs ss e1) (F * rs.getD i 0 * P)
    rw [← Int.mul_sub, Int.mul_comm F, Int.mul_assoc]
    exact btw_mul h
  | whenL i c x =>
    show Btw ((if rs.getD i 0 < c then wo rs ss e2 else wo rs ss x) - (if rs.getD i 0 < c then wo rs ss e1 else wo rs ss x)) (F * P)
    split
    · exact h
    · rw [Int.sub_self]
      exact btw_zero
  | whenR i c x =>
    show Btw ((if rs.getD i 0 < c then wo rs ss x else wo rs ss e2) - (if rs.getD i 0 < c then wo rs ss x else wo rs ss e1)) (F * P)
    split
    · rw [Int.sub_self]
      exact btw_zero
    · exact h
  | whrL j c x =>
    show Btw ((if 1000 * ss.getD j 0 < c * ss.sum then wo rs ss e2 else wo rs ss x) - (if 1000 * ss.getD j 0 < c * ss.sum then wo rs ss e1 else wo rs ss x)) (F * P)
    split
    · exact h
    · rw [Int.sub_self]
      exact btw_zero
  | whrR j c x =>
    show Btw ((if 1000 * ss.getD j 0 < c * ss.sum then wo rs ss x else wo rs ss e2) - (if 1000 * ss.getD j 0 < c * ss.sum then wo rs ss x else wo rs ss e1)) (F * P)
    split
    · rw [Int.sub_self]
      exact btw_zero
    · exact h
theorem btw_all {rs ss : List Int} {P : Int} : ∀ {cs : List Cx1} {e1 e2 : Ex} {F : Int}, Btw (wo rs ss e2 - wo rs ss e1) (F * P) → Btw (wo rs ss (putAll cs e2) - wo rs ss (putAll cs e1)) (cs.foldl (fac1 rs) F * P)
  | [], _, _, _, h => h
  | c :: cs, e1, e2, F, h => btw_all (cs := cs) (e1 := c.put e1) (e2 := c.put e2) (F := fac1 rs F c) (btw_step h)
theorem moved {rs ss : List Int} {cs : List Cx1} {e : Ex} {p : Int} (h : 0 ≤ p * ss.sum) : Btw (wo rs ss (putAll cs (.two .sum e (.fig p))) - wo rs ss (putAll cs e)) (fac rs cs * p * ss.sum) := by
  rw [Int.mul_assoc]
  refine btw_all (F := 1) ?_
  show Btw (wo rs ss e + p * ss.sum - wo rs ss e) (1 * (p * ss.sum))
  rw [Int.one_mul]
  unfold Btw
  omega

/-! ### worths lie in their spans -/
theorem le_sum : ∀ {ss : List Int} {j : Nat}, (∀ x ∈ ss, 0 ≤ x) → j < ss.length → ss.getD j 0 ≤ ss.sum
  | [], _, _, h => by simp at h
  | x :: ss, 0, h, _ => by
    have := sum_nonneg (ms := ss) fun y hy => h y (List.mem_cons_of_mem _ hy)
    show x ≤ (x :: ss).sum
    rw [List.sum_cons]
    omega
  | x :: ss, j + 1, h, hj => by
    have h1 := le_sum (ss := ss) (j := j) (fun y hy => h y (List.mem_cons_of_mem _ hy)) (by simpa using hj)
    have h2 := h x List.mem_cons_self
    show ss.getD j 0 ≤ (x :: ss).sum
    rw [List.sum_cons]
    omega
theorem spn_le : ∀ e : Ex, (spn e).1 ≤ (spn e).2
  | .fig _ => Int.le_refl _
  | .reg _ => by
    show (-1000 : Int) ≤ 1000
    decide
  | .share _ => by
    show (0 : Int) ≤ 1000
    decide
  | .two w a b => by
    have ha := spn_le a
    have hb := spn_le b
    show (js w (spn a) (spn b)).1 ≤ (js w (spn a) (spn b)).2
    cases w with
    | sum => show _ + _ ≤ _ + _; omega
    | less => show _ - _ ≤ _ - _; omega
    | least => show mn _ _ ≤ mn _ _; unfold mn; split <;> split <;> omega
    | most => show mx _ _ ≤ mx _ _; unfold mx; split <;> split <;> omega
  | .times f a => by
    show mn _ _ ≤ mx _ _
    unfold mn mx
    split <;> split <;> omega
  | .by _ a => by
    have h1 : 0 ≤ ab (spn a).1 := by unfold ab; split <;> omega
    have h2 := le_mx (ab (spn a).1) (ab (spn a).2)
    show -1000 * _ ≤ 1000 * _
    omega
  | .when _ _ a b => by
    have ha := spn_le a
    have h1 := mn_le (spn a).1 (spn b).1
    have h2 := le_mx (spn a).2 (spn b).2
    show mn _ _ ≤ mx _ _
    omega
  | .whr _ _ a b => by
    have ha := spn_le a
    have h1 := mn_le (spn a).1 (spn b).1
    have h2 := le_mx (spn a).2 (spn b).2
    show mn _ _ ≤ mx _ _
    omega
theorem mulr_le {a b n : Int} (h : a ≤ b) (hn : 0 ≤ n) : a * n ≤ b * n := Int.mul_le_mul_of_nonneg_right h hn
theorem in_span {many : Nat} {rs ss : List Int} (hr : rs.length = 4) (hrb : ∀ x ∈ rs, -1000 ≤ x ∧ x ≤ 1000) (hs : ss.length = many) (hsb : ∀ x ∈ ss, 0 ≤ x) : ∀ e : Ex, ExOk many e → (spn e).1 * ss.sum ≤ wo rs ss e ∧ wo rs ss e ≤ (spn e).2 * ss.sum
  | .fig c, _ => ⟨Int.le_refl _, Int.le_refl _⟩
  | .reg i, o => by
    have hn := sum_nonneg hsb
    have h := hrb _ (getD_mem (ns := rs) (i := i) (by rw [hr]; exact o))
    exact ⟨mulr_le h.1 hn, mulr_le h.2 hn⟩
  | .share j, o => by
    have o : j < many := o
    have h1 := le_sum (j := j) hsb (by omega)
    have h2 := hsb _ (getD_mem (ns := ss) (i := j) (by omega))
    show 0 * ss.sum ≤ 1000 * ss.getD j 0 ∧ 1000 * ss.getD j 0 ≤ 1000 * ss.sum
    omega
  | .two w a b, o => by
    have ha := in_span hr hrb hs hsb a o.1
    have hb := in_span hr hrb hs hsb b o.2
    have hn := sum_nonneg hsb
    show (js w (spn a) (spn b)).1 * ss.sum ≤ jw w (wo rs ss a) (wo rs ss b) ∧ jw w (wo rs ss a) (wo rs ss b) ≤ (js w (spn a) (spn b)).2 * ss.sum
    cases w with
    | sum =>
      show ((spn a).1 + (spn b).1) * ss.sum ≤ wo rs ss a + wo rs ss b ∧ wo rs ss a + wo rs ss b ≤ ((spn a).2 + (spn b).2) * ss.sum
      rw [Int.add_mul, Int.add_mul]
      omega
    | less =>
      show ((spn a).1 - (spn b).2) * ss.sum ≤ wo rs ss a - wo rs ss b ∧ wo rs ss a - wo rs ss b ≤ ((spn a).2 - (spn b).1) * ss.sum
      rw [Int.sub_mul, Int.sub_mul]
      omega
    | least =>
      have h1 := mn_le (spn a).1 (spn b).1
      have h3 := mulr_le h1.1 hn
      have h4 := mulr_le h1.2 hn
      have h5 := mn_or (spn a).2 (spn b).2
      show mn (spn a).1 (spn b).1 * ss.sum ≤ (if wo rs ss b < wo rs ss a then wo rs ss b else wo rs ss a) ∧ (if wo rs ss b < wo rs ss a then wo rs ss b else wo rs ss a) ≤ mn (spn a).2 (spn b).2 * ss.sum
      rcases h5 with h5 | h5 <;> rw [h5] <;> split <;> omega
    | most =>
      have h1 := le_mx (spn a).2 (spn b).2
      have h3 := mulr_le h1.1 hn
      have h4 := mulr_le h1.2 hn
      have h5 := mx_or (spn a).1 (spn b).1
      show mx (spn a).1 (spn b).1 * ss.sum ≤ (if wo rs ss b > wo rs ss a then wo rs ss b else wo rs ss a) ∧ (if wo rs ss b > wo rs ss a then wo rs ss b else wo rs ss a) ≤ mx (spn a).2 (spn b).2 * ss.sum
      rcases h5 with h5 | h5 <;> rw [h5] <;> split <;> omega
  | .times f a, o => by
    have ha := in_span hr hrb hs hsb a o.2
    have hn := sum_nonneg hsb
    have m1 := mn_le (f * (spn a).1) (f * (spn a).2)
    have m2 := le_mx (f * (spn a).1) (f * (spn a).2)
    have n1 := mulr_le m1.1 hn
    have n2 := mulr_le m1.2 hn
    have n3 := mulr_le m2.1 hn
    have n4 := mulr_le m2.2 hn
    rw [Int.mul_assoc] at n1 n2 n3 n4
    show mn _ _ * ss.sum ≤ f * wo rs ss a ∧ f * wo rs ss a ≤ mx _ _ * ss.sum
    rcases Int.le_total 0 f with hf | hf
    · have p1 := Int.mul_le_mul_of_nonneg_left ha.1 hf
      have p2 := Int.mul_le_mul_of_nonneg_left ha.2 hf
      omega
    · have p1 := Int.mul_le_mul_of_nonpos_left hf ha.1
      have p2 := Int.mul_le_mul_of_nonpos_left hf ha.2
      omega
  | .by i a, o => by
    have ha := in_span hr hrb hs hsb a o.2
    have hn := sum_nonneg hsb
    have hg := hrb _ (getD_mem (ns := rs) (i := i) (by rw [hr]; exact o.1))
    generalize ht : mx (ab (spn a).1) (ab (spn a).2) = t
    have t1 : -t ≤ (spn a).1 ∧ (spn a).2 ≤ t := by
      have h2 := le_mx (ab (spn a).1) (ab (spn a).2)
      rw [ht] at h2
      have h3 : -(spn a).1 ≤ ab (spn a).1 := by unfold ab; split <;> omega
      have h4 : (spn a).2 ≤ ab (spn a).2 := by unfold ab; split <;> omega
      omega
    have w1 : -(t * ss.sum) ≤ wo rs ss a := by
      have := mulr_le t1.1 hn
      rw [Int.neg_mul] at this
      omega
    have w2 : wo rs ss a ≤ t * ss.sum := by
      have := mulr_le t1.2 hn
      omega
    show (-1000 * mx (ab (spn a).1) (ab (spn a).2)) * ss.sum ≤ rs.getD i 0 * wo rs ss a ∧ rs.getD i 0 * wo rs ss a ≤ (1000 * mx (ab (spn a).1) (ab (spn a).2)) * ss.sum
    rw [ht, Int.mul_assoc, Int.mul_assoc]
    generalize rs.getD i 0 = g at *
    generalize t * ss.sum = T at *
    generalize wo rs ss a = x at *
    have hT : 0 ≤ T := by omega
    rcases Int.le_total 0 g with hgn | hgn
    · have p1 := Int.mul_le_mul_of_nonneg_left w1 hgn
      have p2 := Int.mul_le_mul_of_nonneg_left w2 hgn
      have p3 := Int.mul_le_mul_of_nonneg_right hg.2 hT
      rw [Int.mul_neg] at p1
      omega
    · have p1 := Int.mul_le_mul_of_nonpos_left hgn w1
      have p2 := Int.mul_le_mul_of_nonpos_left hgn w2
      have p3 := Int.mul_le_mul_of_nonneg_right hg.1 hT
      rw [Int.mul_neg] at p1
      omega
  | .when i c a b, o => by
    have ha := in_span hr hrb hs hsb a o.2.2.1
    have hb := in_span hr hrb hs hsb b o.2.2.2
    have hn := sum_nonneg hsb
    have m1 := mn_le (spn a).1 (spn b).1
    have m2 := le_mx (spn a).2 (spn b).2
    have n1 := mulr_le m1.1 hn
    have n2 := mulr_le m1.2 hn
    have n3 := mulr_le m2.1 hn
    have n4 := mulr_le m2.2 hn
    show mn _ _ * ss.sum ≤ (if rs.getD i 0 < c then wo rs ss a else wo rs ss b) ∧ (if rs.getD i 0 < c then wo rs ss a else wo rs ss b) ≤ mx _ _ * ss.sum
    split <;> omega
  | .whr j c a b, o => by
    have ha := in_span hr hrb hs hsb a o.2.2.1
    have hb := in_span hr hrb hs hsb b o.2.2.2
    have hn := sum_nonneg hsb
    have m1 := mn_le (spn a).1 (spn b).1
    have m2 := le_mx (spn a).2 (spn b).2
    have n1 := mulr_le m1.1 hn
    have n2 := mulr_le m1.2 hn
    have n3 := mulr_le m2.1 hn
    have n4 := mulr_le m2.2 hn
    show mn _ _ * ss.sum ≤ (if 1000 * ss.getD j 0 < c * ss.sum then wo rs ss a else wo rs ss b) ∧ (if 1000 * ss.getD j 0 < c * ss.sum then wo rs ss a else wo rs ss b) ≤ mx _ _ * ss.sum
    split <;> omega

/-! ### promises -/
def spAround (K : PySem.W.Frag) : Sp := fun vs H Q _ => ∃ (a : Addr) (many n : Nat), vs = [.ref a, .int (many : Int)] ∧ 2 ≤ many ∧ many ≤ 3 ∧ HandAt H a n ∧ n ≤ 999998000 ∧
  ∀ H' p xs cs, But a H H' → HandAt H' a (n + 90) → p ≠ a → H' p = some (.lst xs) → CtxsAt K H' xs cs → (∀ c ∈ cs, c.ok many) → cs.length ≤ 4 → Q (.ref p) H'
def spPut (K : PySem.W.Frag) : Sp := fun vs H Q _ => ∃ (p : Addr) (v : V) (xs : List V) (cs : List Cx1) (e : Ex), vs = [.ref p, v] ∧ H p = some (.lst xs) ∧ CtxsAt K H xs cs ∧ ExAt K H e v ∧ ∀ H' u, Same H H' → ExAt K H' (putAll cs e) u → Q u H'
def spFac (K : PySem.W.Frag) (many : Nat) : Sp := fun vs H Q _ => ∃ (p : Addr) (r : V) (xs : List V) (cs : List Cx1) (rs : List Int), vs = [.ref p, r] ∧ H p = some (.lst xs) ∧ CtxsAt K H xs cs ∧ (∀ c ∈ cs, c.ok many) ∧ RegsAt K H rs r ∧ Q (.int (fac rs cs)) H
end NG

namespace NG
open PySem PySem.Spec PyProof.Rows L2
def topS (i : Nat) : Stmt := PySem.Challenge.pw_nonegrowsrich_k12_whole_a_greater_part_p.main.body.getD i (.Pass ⟨0, 0, 0, 0⟩)
abbrev s_parts : Stmt := topS 2
abbrev N_parts : List Str := ["expression", "shape", "kind", "item"]
theorem sc_parts : FnScope ["expression", "shape", "kind", "item"] ["expression"] (defScope s_parts) := ⟨rfl, rfl, rfl, by decide +kernel, rfl, by decide +kernel, by decide +kernel⟩
abbrev s_led_part : Stmt := topS 3
abbrev N_led_part : List Str := ["expression", "registers", "word", "place", "figure", "first", "second"]
theorem sc_led_part : FnScope ["expression", "registers", "word", "place", "figure", "first", "second"] ["expression", "registers"] (defScope s_led_part) := ⟨rfl, rfl, rfl, by decide +kernel, rfl, by decide +kernel, by decide +kernel⟩
abbrev s_side_part : Stmt := topS 4
abbrev N_side_part : List Str := ["expression", "shares", "word", "sign", "line", "first", "second"]
theorem sc_side_part : FnScope ["expression", "shares", "word", "sign", "line", "first", "second"] ["expression", "shares"] (defScope s_side_part) := ⟨rfl, rfl, rfl, by decide +kernel, rfl, by decide +kernel, by decide +kernel⟩
abbrev s_join_worths : Stmt := topS 5
abbrev N_join_worths : List Str := ["word", "first", "second"]
theorem sc_join_worths : FnScope ["word", "first", "second"] ["word", "first", "second"] (defScope s_join_worths) := ⟨rfl, rfl, rfl, by decide +kernel, rfl, by decide +kernel, by decide +kernel⟩
abbrev s_worth : Stmt := topS 6
abbrev N_worth : List Str := ["expression", "registers", "shares", "word", "first", "second"]
theorem sc_worth : FnScope ["expression", "registers", "shares", "word", "first", "second"] ["expression", "registers", "shares"] (defScope s_worth) := ⟨rfl, rfl, rfl, by decide +kernel, rfl, by decide +kernel, by decide +kernel⟩
abbrev s_join_spans : Stmt := topS 7
abbrev N_join_spans : List Str := ["word", "first", "second", "low", "high", "lower", "higher"]
theorem sc_join_spans : FnScope ["word", "first", "second", "low", "high", "lower", "higher"] ["word", "first", "second"] (defScope s_join_spans) := ⟨rfl, rfl, rfl, by decide +kernel, rfl, by decide +kernel, by decide +kernel⟩
abbrev s_span : Stmt := topS 8
abbrev N_span : List Str := ["expression", "word", "spans", "part", "ends", "end", "furthest"]
theorem sc_span : FnScope ["expression", "word", "spans", "part", "ends", "end", "furthest"] ["expression"] (defScope s_span) := ⟨rfl, rfl, rfl, by decide +kernel, rfl, by decide +kernel, by decide +kernel⟩
abbrev s_L_hand : Stmt := topS 10
abbrev N_L_hand : List Str := ["_law_script", "_law_k", "_law_cell", "_law_great"]
theorem sc_L_hand : FnScope ["_law_script", "_law_k", "_law_cell", "_law_great"] ["_law_script", "_law_k"] (defScope s_L_hand) := ⟨rfl, rfl, rfl, by decide +kernel, rfl, by decide +kernel, by decide +kernel⟩
abbrev s_L_take : Stmt := topS 11
abbrev N_L_take : List Str := ["_law_hand_here", "_law_many", "_law_digit", "_law_primes", "_law_prime", "_law_drawn"]
theorem sc_L_take : FnScope ["_law_hand_here", "_law_many", "_law_digit", "_law_primes", "_law_prime", "_law_drawn"] ["_law_hand_here", "_law_many"] (defScope s_L_take) := ⟨rfl, rfl, rfl, by decide +kernel, rfl, by decide +kernel, by decide +kernel⟩
abbrev s_L_of : Stmt := topS 12
abbrev N_L_of : List Str := ["_law_hand_here", "_law_some"]
theorem sc_L_of : FnScope ["_law_hand_here", "_law_some"] ["_law_hand_here", "_law_some"] (defScope s_L_of) := ⟨rfl, rfl, rfl, by decide +kernel, rfl, by decide +kernel, by decide +kernel⟩
abbrev s_L_figure : Stmt := topS 13
abbrev N_L_figure : List Str := ["_law_hand_here", "_law_some"]
theorem sc_L_figure : FnScope ["_law_hand_here", "_law_some"] ["_law_hand_here"] (defScope s_L_figure) := ⟨rfl, rfl, rfl, by decide +kernel, rfl, by decide +kernel, by decide +kernel⟩
abbrev s_L_leaf : Stmt := topS 14
abbrev N_L_leaf : List Str := ["_law_hand_here", "_law_many", "_law_sort"]
theorem sc_L_leaf : FnScope ["_law_hand_here", "_law_many", "_law_sort"] ["_law_hand_here", "_law_many"] (defScope s_L_leaf) := ⟨rfl, rfl, rfl, by decide +kernel, rfl, by decide +kernel, by decide +kernel⟩
abbrev s_L_expression : Stmt := topS 15
abbrev N_L_expression : List Str := ["_law_hand_here", "_law_many", "_law_level", "_law_jumps", "_law_words", "_law_word", "_law_one", "_law_other", "_law_figure_here"]
theorem sc_L_expression : FnScope ["_law_hand_here", "_law_many", "_law_level", "_law_jumps", "_law_words", "_law_word", "_law_one", "_law_other", "_law_figure_here"] ["_law_hand_here", "_law_many", "_law_level", "_law_jumps"] (defScope s_L_expression) := ⟨rfl, rfl, rfl, by decide +kernel, rfl, by decide +kernel, by decide +kernel⟩
abbrev s_L_lowest : Stmt := topS 16
abbrev N_L_lowest : List Str := ["_law_row", "_law_by", "_law_number"]
theorem sc_L_lowest : FnScope ["_law_row", "_law_by", "_law_number"] ["_law_row"] (defScope s_L_lowest) := ⟨rfl, rfl, rfl, by decide +kernel, rfl, by decide +kernel, by decide +kernel⟩
abbrev s_L_shares : Stmt := topS 17
abbrev N_L_shares : List Str := ["_law_hand_here", "_law_many", "_law_row", "_law_sign", "_law_some"]
theorem sc_L_shares : FnScope ["_law_hand_here", "_law_many", "_law_row", "_law_sign", "_law_some"] ["_law_hand_here", "_law_many"] (defScope s_L_shares) := ⟨rfl, rfl, rfl, by decide +kernel, rfl, by decide +kernel, by decide +kernel⟩
abbrev s_L_registers : Stmt := topS 18
abbrev N_L_registers : List Str := ["_law_hand_here", "_law_turn"]
theorem sc_L_registers : FnScope ["_law_hand_here", "_law_turn"] ["_law_hand_here"] (defScope s_L_registers) := ⟨rfl, rfl, rfl, by decide +kernel, rfl, by decide +kernel, by decide +kernel⟩
abbrev s_L_around : Stmt := topS 19
abbrev N_L_around : List Str := ["_law_hand_here", "_law_many", "_law_found", "_law_turn", "_law_leaf_here", "_law_at", "_law_word", "_law_some", "_law_figure_here"]
theorem sc_L_around : FnScope ["_law_hand_here", "_law_many", "_law_found", "_law_turn", "_law_leaf_here", "_law_at", "_law_word", "_law_some", "_law_figure_here"] ["_law_hand_here", "_law_many"] (defScope s_L_around) := ⟨rfl, rfl, rfl, by decide +kernel, rfl, by decide +kernel, by decide +kernel⟩
abbrev s_L_put : Stmt := topS 20
abbrev N_L_put : List Str := ["_law_around_here", "_law_expression_here", "_law_ahead", "_law_rear"]
theorem sc_L_put : FnScope ["_law_around_here", "_law_expression_here", "_law_ahead", "_law_rear"] ["_law_around_here", "_law_expression_here"] (defScope s_L_put) := ⟨rfl, rfl, rfl, by decide +kernel, rfl, by decide +kernel, by decide +kernel⟩
abbrev s_L_factor : Stmt := topS 21
abbrev N_L_factor : List Str := ["_law_around_here", "_law_registers_here", "_law_factor_here", "_law_ahead", "_law_rear"]
theorem sc_L_factor : FnScope ["_law_around_here", "_law_registers_here", "_law_factor_here", "_law_ahead", "_law_rear"] ["_law_around_here", "_law_registers_here"] (defScope s_L_factor) := ⟨rfl, rfl, rfl, by decide +kernel, rfl, by decide +kernel, by decide +kernel⟩
abbrev s_L_moves_right : Stmt := topS 22
abbrev N_L_moves_right : List Str := ["_law_hand_here", "_law_many", "_law_expression_here", "_law_around_here", "_law_put_on", "_law_one", "_law_other", "_law_low", "_law_high", "_law_turn", "_law_shares_here", "_law_registers_here", "_law_begun", "_law_gone", "_law_most"]
theorem sc_L_moves_right : FnScope ["_law_hand_here", "_law_many", "_law_expression_here", "_law_around_here", "_law_put_on", "_law_one", "_law_other", "_law_low", "_law_high", "_law_turn", "_law_shares_here", "_law_registers_here", "_law_begun", "_law_gone", "_law_most"] ["_law_hand_here", "_law_many", "_law_expression_here"] (defScope s_L_moves_right) := ⟨rfl, rfl, rfl, by decide +kernel, rfl, by decide +kernel, by decide +kernel⟩
abbrev s_L_cut_right : Stmt := topS 23
abbrev N_L_cut_right : List Str := ["_law_hand_here", "_law_many", "_law_expression_here", "_law_ends", "_law_cut", "_law_low", "_law_high", "_law_turn", "_law_shares_here", "_law_registers_here", "_law_own", "_law_told", "_law_total"]
theorem sc_L_cut_right : FnScope ["_law_hand_here", "_law_many", "_law_expression_here", "_law_ends", "_law_cut", "_law_low", "_law_high", "_law_turn", "_law_shares_here", "_law_registers_here", "_law_own", "_law_told", "_law_total"] ["_law_hand_here", "_law_many", "_law_expression_here"] (defScope s_L_cut_right) := ⟨rfl, rfl, rfl, by decide +kernel, rfl, by decide +kernel, by decide +kernel⟩
abbrev s_law : Stmt := topS 24
abbrev N_law : List Str := ["_law_script", "_law_k", "_law_hand_here", "_law_many", "_law_turn", "_law_expression_here"]
theorem sc_law : FnScope ["_law_script", "_law_k", "_law_hand_here", "_law_many", "_law_turn", "_law_expression_here"] ["_law_script"] (defScope s_law) := ⟨rfl, rfl, rfl, by decide +kernel, rfl, by decide +kernel, by decide +kernel⟩

end NG

namespace NG
open PySem PySem.Spec PyProof.Rows L2
section
variable {P : Program} {w : World} {K : PySem.W.Frag} {mg : Str → Option Value} {base : Heap}
theorem primes_at {m : Int} (h : 0 ≤ m) : ∃ p : Int, atI ([.int 2147483647, .int 2147483629, .int 2147483587, .int 2147483579, .int 2147483563, .int 2147483549, .int 2147483543, .int 2147483497] : List V) (m % 8) = some (.int p) ∧ 1000 < p ∧ p < 2147483648 := by
  have h1 : m % 8 = 0 ∨ m % 8 = 1 ∨ m % 8 = 2 ∨ m % 8 = 3 ∨ m % 8 = 4 ∨ m % 8 = 5 ∨ m % 8 = 6 ∨ m % 8 = 7 := by omega
  rcases h1 with e | e | e | e | e | e | e | e <;> rw [e] <;> exact ⟨_, rfl, by decide, by decide⟩
theorem ok_take {f : Addr} {fd : FuncData} (F : Fun K "_law_take" "_law_take" s_L_take f fd) (gF : mg "_law_take" = some (.ref f)) (b : Binds K fd ["_law_hand_here", "_law_many"] []) : Cal P w K mg base 1 "_law_take" spTake := by
  refine ⟨f, fd, _, F.ok sc_L_take (fun vs H Q E h => ?_) (fun cdv A outer s H vs Q E hr h => ?_), gF, F.kp, b⟩
  · obtain ⟨a, m, n, rfl, _⟩ := h
    rfl
  · obtain ⟨a, many, n, rfl, hm, hm2, ⟨g, sd, m, e, hg, hs, h0, hn⟩, hN, q⟩ := h
    refine ⟨_, (pss_cons (ps_if (pt_cmpR op_gt (pe_ix ix_list (pv 0) pe_int (fun _ _ => rfl)) pe_int (nomark _)) (pss_cons (ps_set (i := 2) sc_L_take.nd rfl (.inl rfl) (pe_op op_mod (pe_ix ix_list (pv 0) pe_int (fun _ _ => rfl)) (pv 1))) (pss_cons (ps_asg (pe_op op_fdivW (pe_ix ix_list (pv 0) pe_int (fun _ _ => rfl)) (pv 1)) (pg_sub (pv 0) pe_int set_list)) (pss_one (ps_ret (pv 2))))) pss_nil) (pss_cons (ps_asg (pe_op op_add (pe_ix ix_list (pv 0) pe_int (fun _ _ => rfl)) pe_int) (pg_sub (pv 0) pe_int set_list)) (pss_cons (ps_set (i := 3) sc_L_take.nd rfl (.inl rfl) (pe_lst (pa_cons pe_int (pa_cons pe_int (pa_cons pe_int (pa_cons pe_int (pa_cons pe_int (pa_cons pe_int (pa_cons pe_int (pa_cons pe_int pa_nil)))))))))) (pss_cons (ps_set (i := 4) sc_L_take.nd rfl (.inl rfl) (pe_ix ix_list (pv 3) (pe_op op_mod (pe_ix ix_list (pv 0) pe_int (fun _ _ => rfl)) pe_int) (fun _ _ => rfl))) (pss_cons (ps_set (i := 5) sc_L_take.nd rfl (.inl rfl) (pe_op op_add (pe_op op_mod (pe_op op_mod (pe_op op_add (pe_ix ix_list (pv 0) pe_int (fun _ _ => rfl)) (pe_op op_mul (pe_op op_mul pe_int (pe_ix ix_list (pv 0) pe_int (fun _ _ => rfl))) (pe_ix ix_list (pv 0) pe_int (fun _ _ => rfl)))) (pe_op op_pow (pv 4) pe_int)) (pv 4)) pe_int)) (pss_one (ps_ret (pe_op op_mod (pe_op op_fdiv (pe_op op_mod (pe_op op_mul (pv 5) (pe_op op_add (pe_op op_mod (pv 5) pe_int) (pe_ix ix_list (pv 0) pe_int (fun _ _ => rfl)))) (pv 4)) pe_int) (pv 1))))))))), ?_⟩
    refine ⟨.ref a, rfl, a, _, 0, .int g, rfl, rfl, SqL.of e, rfl, g, 0, rfl, rfl, _, rfl, iteD (fun c => ?_) (fun c => ?_)⟩
    · refine ⟨.ref a, rfl, a, _, 0, .int g, rfl, rfl, SqL.of e, rfl, .int many, rfl, g, many, rfl, rfl, hm, ?_⟩
      refine ⟨.ref a, rfl, a, _, 0, .int g, rfl, rfl, SqL.of e, rfl, .int many, rfl, g, many, rfl, rfl, wide_div (b := 62) hm (by omega) (by decide) (by decide), ?_⟩
      refine ⟨.ref a, rfl, a, _, 0, 0, rfl, rfl, e, rfl, ?_⟩
      refine ⟨.int (g % many), rfl, q _ _ But.put ?_ (Int.emod_nonneg _ (by omega)) (Int.emod_lt_of_pos _ hm)⟩
      exact ⟨g / many, sd, m, upd_same, Int.ediv_nonneg hg (by omega), hs, h0, by omega⟩
    · refine ⟨.ref a, rfl, a, _, 2, .int m, rfl, rfl, SqL.of e, rfl, m, 1, rfl, rfl, ?_⟩
      refine ⟨.ref a, rfl, a, _, 2, 2, rfl, rfl, e, rfl, ?_⟩
      have e1 : (upd H a (.lst [.int g, .int sd, .int (m + 1)])) a = some (.lst [.int g, .int sd, .int (m + 1)]) := upd_same
      refine ⟨by decide, fun p np => ?_⟩
      have npa : p ≠ a := (ne_of_none e1 np).symm
      obtain ⟨pr, hat, hp1, hp2⟩ := primes_at (m := m + 1) (by omega)
      have e2 : (upd (upd H a (.lst [.int g, .int sd, .int (m + 1)])) p (.lst [.int 2147483647, .int 2147483629, .int 2147483587, .int 2147483579, .int 2147483563, .int 2147483549, .int 2147483543, .int 2147483497])) a = some (.lst [.int g, .int sd, .int (m + 1)]) := by rw [upd_ne npa.symm]; exact e1
      have e3 : (upd (upd H a (.lst [.int g, .int sd, .int (m + 1)])) p (.lst [.int 2147483647, .int 2147483629, .int 2147483587, .int 2147483579, .int 2147483563, .int 2147483549, .int 2147483543, .int 2147483497])) p = some (.lst [.int 2147483647, .int 2147483629, .int 2147483587, .int 2147483579, .int 2147483563, .int 2147483549, .int 2147483543, .int 2147483497]) := upd_same
      refine ⟨.ref p, rfl, .ref a, rfl, a, _, 2, .int (m + 1), rfl, rfl, SqL.of e2, rfl, m + 1, 8, rfl, rfl, (by show (0 : Int) < 8; decide), p, _, (m + 1) % 8, .int pr, rfl, rfl, SqL.of e3, hat, ?_⟩
      have hsq : (0 : Int) < pr ^ (2 : Int).toNat := by
        show 0 < pr ^ 2
        exact Int.pow_pos (by omega)
      refine ⟨.ref a, rfl, a, _, 1, .int sd, rfl, rfl, SqL.of e2, rfl, .ref a, rfl, a, _, 2, .int (m + 1), rfl, rfl, SqL.of e2, rfl, 69621, m + 1, rfl, rfl, .inl ⟨by decide, by decide⟩, .ref a, rfl, a, _, 2, .int (m + 1), rfl, rfl, SqL.of e2, rfl, _, _, rfl, rfl, .inr ⟨by omega, by omega⟩, _, _, rfl, rfl,
        .int pr, rfl, pr, 2, rfl, rfl, ⟨by decide, by decide, by omega⟩, _, _, rfl, rfl, hsq, .int pr, rfl, _, pr, rfl, rfl, (by show 0 < pr; omega), _, 1, rfl, rfl, ?_⟩
      generalize hz : (sd + 69621 * (m + 1) * (m + 1)) % pr ^ (2 : Int).toNat % pr = z
      have hz0 : 0 ≤ z := by rw [← hz]; exact Int.emod_nonneg _ (by omega)
      have hz1 : z < pr := by rw [← hz]; exact Int.emod_lt_of_pos _ (by omega)
      refine ⟨.int (z + 1), rfl, .int (z + 1), rfl, z + 1, 1009, rfl, rfl, (by show (0 : Int) < 1009; decide), .ref a, rfl, a, _, 2, .int (m + 1), rfl, rfl, SqL.of e2, rfl, _, _, rfl, rfl, z + 1, _, rfl, rfl, .inl ⟨by omega, by omega⟩, .int pr, rfl, _, pr, rfl, rfl, (by show 0 < pr; omega), _, 7, rfl, rfl, ⟨by decide, by decide⟩, .int many, rfl, _, many, rfl, rfl, hm, ?_⟩
      refine q _ _ ?_ ⟨g, sd, m + 1, e2, hg, hs, by omega, by omega⟩ (Int.emod_nonneg _ (by omega)) (Int.emod_lt_of_pos _ hm)
      exact But.put.trans (But.new np)
end
end NG

namespace NG
open PySem PySem.Spec PyProof.Rows L2
section
variable {P : Program} {w : World} {K : PySem.W.Frag} {mg : Str → Option Value} {base : Heap}
theorem ok_hand {f : Addr} {fd : FuncData} (F : Fun K "_law_hand" "_law_hand" s_L_hand f fd) (gF : mg "_law_hand" = some (.ref f)) (b : Binds K fd ["_law_script", "_law_k"] []) (B : Bl mg) : Cal P w K mg base 1 "_law_hand" (spHand K) := by
  refine ⟨f, fd, _, F.ok sc_L_hand (fun vs H Q E h => ?_) (fun cdv A outer s H vs Q E hr h => ?_), gF, F.kp, b⟩
  · obtain ⟨a, m, n, rfl, _⟩ := h
    rfl
  · obtain ⟨a, k, ns, rfl, hk0, hk1, hS, q⟩ := h
    refine ⟨_, (pss_cons (ps_set (i := 2) sc_L_hand.nd rfl (.inl rfl) (pe_cut (pe_ifExp (pt_cmpR op_lt (pv 1) (pe_callB call_len_seq (by rfl) B.len PySem.boot_len (pa_cons (pv 0) pa_nil)) (nomark _)) (pe_ix ix_list (pv 0) (pv 1) (fun _ _ => rfl)) pe_int))) (pss_cons (ps_set (i := 3) sc_L_hand.nd rfl (.inl rfl) (pe_op op_mul (pe_op op_mod (pe_callB call_abs (by rfl) B.abs (by decide +kernel) (pa_cons (pv 2) pa_nil)) (pe_op op_mulW (pe_op op_pow pe_int pe_int) (pe_op op_pow pe_int pe_int))) (pe_callTy call_int1 (by rfl) B.int (by decide +kernel) (pa_cons (pe_cmpR op_ge (pe_callB call_abs (by rfl) B.abs (by decide +kernel) (pa_cons (pv 2) pa_nil)) (pe_op op_pow pe_int pe_int) (nomark _)) pa_nil)))) (pss_one (ps_ret (pe_lst (pa_cons (pv 3) (pa_cons (pe_op op_add (pe_op op_add (pe_op op_mod (pv 2) pe_int) (pe_op op_mul pe_int (pv 1))) pe_int) (pa_cons pe_int pa_nil)))))))), ?_⟩
    refine ⟨fun v H' => H' = H ∧ ∃ c : Int, v = .int c, ?_, fun v H' hv => ?_⟩
    · refine ⟨.int k, rfl, .ref a, rfl, a, _, rfl, .inl hS, k, _, rfl, rfl, _, rfl, iteD (fun c => ?_) (fun c => ?_)⟩
      · exact ⟨.ref a, rfl, .int k, rfl, a, _, k, _, rfl, rfl, hS, at_int hk0 (by rw [List.length_map] at c; exact c), rfl, _, rfl⟩
      · exact ⟨rfl, 0, rfl⟩
    · obtain ⟨rfl, c, rfl⟩ := hv
      refine ⟨.int c, rfl, c, rfl, 10, 60, rfl, rfl, ⟨by decide, by decide, by decide⟩, 10, 60, rfl, rfl, ⟨by decide, by decide, by decide⟩, _, _, rfl, rfl, wide_mul (a := 300) (b := 300) (by decide) (by decide) (by decide) (by decide) (by decide), _, _, rfl, rfl, (by show (0 : Int) < 10 ^ 60 * 10 ^ 60; decide), ?_⟩
      refine ⟨.int c, rfl, c, rfl, 10, 18, rfl, rfl, ⟨by decide, by decide, by decide⟩, _, _, rfl, rfl, .inr ⟨_, rfl, ?_⟩⟩
      have h01 : ∀ z : Bool, (0 : Int) ≤ (if z = true then 1 else 0) ∧ (if z = true then (1 : Int) else 0) ≤ 1 := by
        intro z
        cases z <;> decide
      refine ⟨_, _, rfl, rfl, .inr ⟨by have := h01 (decide ((10 : Int) ^ (18 : Int).toNat ≤ if c < 0 then -c else c)); omega, by have := h01 (decide ((10 : Int) ^ (18 : Int).toNat ≤ if c < 0 then -c else c)); omega⟩, ?_⟩
      refine ⟨_, rfl, .int c, rfl, c, 2305843009213693951, rfl, rfl, (by show (0 : Int) < 2305843009213693951; decide), .int k, rfl, 104729, k, rfl, rfl, .inl ⟨by decide, by decide⟩, _, _, rfl, rfl, _, 7, rfl, rfl, (by show 3 ≤ sizeLine; decide), fun p np => ?_⟩
      refine q p _ _ np (Int.mul_nonneg (Int.emod_nonneg _ (by show (10 : Int) ^ 60 * 10 ^ 60 ≠ 0; decide)) (h01 _).1) ?_
      have : 0 ≤ c % 2305843009213693951 := Int.emod_nonneg _ (by decide)
      omega
theorem ok_of {f : Addr} {fd : FuncData} (F : Fun K "_law_of" "_law_of" s_L_of f fd) (gF : mg "_law_of" = some (.ref f)) (b : Binds K fd ["_law_hand_here", "_law_some"] []) (B : Bl mg) (c_L_take : Cal P w K mg base 1 "_law_take" spTake) : Cal P w K mg base 2 "_law_of" (spOf K) := by
  refine ⟨f, fd, _, F.ok sc_L_of (fun vs H Q E h => ?_) (fun cdv A outer s H vs Q E hr h => ?_), gF, F.kp, b⟩
  · obtain ⟨a, m, n, _, rfl, _⟩ := h
    rfl
  · obtain ⟨a, l, xs, n, rfl, hal, hl, h0, h1, hh, hn, q⟩ := h
    refine ⟨_, (pss_one (ps_ret (pe_ix ix_list (pv 1) (pe_c c_L_take hr (by omega) (by rfl) (pa_cons (pv 0) (pa_cons (pe_callB call_len_seq (by rfl) B.len PySem.boot_len (pa_cons (pv 1) pa_nil)) pa_nil))) (fun _ _ => rfl)))), ?_⟩
    refine ⟨.ref l, rfl, .ref a, rfl, .ref l, rfl, l, _, rfl, .inl (SqL.of hl), ?_⟩
    refine ⟨a, _, n, rfl, by omega, by omega, hh, hn, fun H' r bt hh' r0 r1 => ?_⟩
    have hl' : H' l = some (.lst xs) := bt _ _ (Ne.symm hal) hl
    obtain ⟨v, hv, hm⟩ := at_mem (xs := xs) r0 r1
    exact ⟨l, _, r, v, rfl, rfl, SqL.of hl', hv, q _ _ bt hh' hm⟩
theorem ok_figure {f : Addr} {fd : FuncData} (F : Fun K "_law_figure" "_law_figure" s_L_figure f fd) (gF : mg "_law_figure" = some (.ref f)) (b : Binds K fd ["_law_hand_here"] []) (B : Bl mg) (c_L_take : Cal P w K mg base 1 "_law_take" spTake) (c_L_of : Cal P w K mg base 2 "_law_of" (spOf K)) : Cal P w K mg base 3 "_law_figure" spFigure := by
  refine ⟨f, fd, _, F.ok sc_L_figure (fun vs H Q E h => ?_) (fun cdv A outer s H vs Q E hr h => ?_), gF, F.kp, b⟩
  · obtain ⟨a, m, rfl, _⟩ := h
    rfl
  · obtain ⟨a, n, rfl, hh, hn, q⟩ := h
    refine ⟨_, (pss_cons (ps_set (i := 1) sc_L_figure.nd rfl (.inl rfl) (pe_lst (pa_cons pe_int (pa_cons pe_int (pa_cons (pe_un un_neg pe_int) (pa_cons pe_int (pa_cons pe_int (pa_cons pe_int (pa_cons pe_int (pa_cons (pe_un un_neg pe_int) (pa_cons pe_int (pa_cons (pe_un un_neg pe_int) pa_nil)))))))))))) (pss_one (ps_ret (pe_c c_L_of hr (by omega) (by rfl) (pa_cons (pv 0) (pa_cons (pe_op op_cat (pv 1) (pe_lst (pa_cons (pe_op op_sub (pe_c c_L_take hr (by omega) (by rfl) (pa_cons (pv 0) (pa_cons pe_int pa_nil))) pe_int) (pa_cons (pe_op op_sub (pe_c c_L_take hr (by omega) (by rfl) (pa_cons (pv 0) (pa_cons pe_int pa_nil))) pe_int) pa_nil)))) pa_nil)))))), ?_⟩
    refine ⟨_, rfl, _, rfl, _, rfl, (by show 10 ≤ sizeLine; decide), fun l nl => ?_⟩
    have hla := hh.ne nl
    have hl : (upd H l (.lst [.int 0, .int 1, .int (-1), .int 50, .int 100, .int 250, .int 500, .int (-500), .int 1000, .int (-1000)])) l = _ := upd_same
    refine ⟨.ref a, rfl, .ref l, rfl, .ref a, rfl, a, 2001, n, rfl, by decide, by decide, hh.new nl, by omega, fun H1 r1 b1 hh1 r10 r11 => ⟨_, _, rfl, rfl, ?_⟩⟩
    refine ⟨.ref a, rfl, a, 201, n + 1, rfl, by decide, by decide, hh1, by omega, fun H2 r2 b2 hh2 r20 r21 => ⟨_, _, rfl, rfl, ?_⟩⟩
    refine ⟨(by show 2 ≤ sizeLine; decide), fun l2 nl2 => ?_⟩
    have hl2a := hh2.ne nl2
    have e1 : H2 l = some (.lst [.int 0, .int 1, .int (-1), .int 50, .int 100, .int 250, .int 500, .int (-500), .int 1000, .int (-1000)]) := b2 _ _ hla (b1 _ _ hla hl)
    refine ⟨l, l2, _, _, rfl, rfl, by rw [upd_ne (ne_of_none e1 nl2)]; exact e1, upd_same, (by show 12 ≤ sizeLine; decide), fun l3 nl3 => ?_⟩
    have hh3 := (hh2.new (o := .lst [.int (r1 - 1000), .int (r2 - 100)]) nl2)
    refine ⟨a, l3, _, n + 2, rfl, (hh3.ne nl3).symm, upd_same, (by show 0 < 12; decide), (by show 12 ≤ 1000; decide), hh3.new nl3, by omega, fun H4 v b4 hh4 hv => ?_⟩
    have bb : But a H H4 := (((((But.new nl).trans b1).trans b2).trans (But.new nl2)).trans (But.new nl3)).trans b4
    have key : ∃ c : Int, v = .int c ∧ -1000 ≤ c ∧ c ≤ 1000 := by
      simp only [List.cons_append, List.nil_append, List.mem_cons, List.not_mem_nil, or_false] at hv
      rcases hv with rfl | rfl | rfl | rfl | rfl | rfl | rfl | rfl | rfl | rfl | rfl | rfl
      all_goals exact ⟨_, rfl, by omega, by omega⟩
    obtain ⟨c, rfl, c0, c1⟩ := key
    exact q _ _ bb hh4 c0 c1
end
end NG

namespace NG
open PySem PySem.Spec PyProof.Rows L2
section
variable {P : Program} {w : World} {K : PySem.W.Frag} {mg : Str → Option Value} {base : Heap}
theorem ok_led {f : Addr} {fd : FuncData} (F : Fun K "led_part" "led_part" s_led_part f fd) (gF : mg "led_part" = some (.ref f)) (b : Binds K fd ["expression", "registers"] []) (B : Bl mg) : Cal P w K mg base 1 "led_part" (spLed K) := by
  refine ⟨f, fd, _, F.ok sc_led_part (fun vs H Q E h => ?_) (fun cdv A outer s H vs Q E hr h => ?_), gF, F.kp, b⟩
  · obtain ⟨_, _, _, _, _, _, _, rfl, _⟩ := h
    rfl
  · obtain ⟨p, _, x, y, i, c, rs, rfl, hp, hi, ⟨r, rfl, hr', hl, hb⟩, q⟩ := h
    refine ⟨_, (pss_cons (ps_asg (pv 0) (pg_tup rfl (pgs_cons (pg_name (i := 2) sc_led_part.nd rfl (.inl rfl)) (pgs_cons (pg_name (i := 3) sc_led_part.nd rfl (.inl rfl)) (pgs_cons (pg_name (i := 4) sc_led_part.nd rfl (.inl rfl)) (pgs_cons (pg_name (i := 5) sc_led_part.nd rfl (.inl rfl)) (pgs_cons (pg_name (i := 6) sc_led_part.nd rfl (.inl rfl)) pgs_nil))))))) (pss_one (ps_ret (pe_ifExp (pt_cmpR op_lt (pe_ix ix_tup (pv 1) (pv 3) (fun _ _ => rfl)) (pv 4) (nomark _)) (pv 5) (pv 6))))), ?_⟩
    refine ⟨.ref p, rfl, p, _, rfl, hp, rfl, _, _, rfl, _, _, rfl, _, _, rfl, _, _, rfl, _, _, rfl, rfl, ?_⟩
    refine ⟨.ref r, rfl, .int (i : Int), rfl, r, _, _, _, rfl, rfl, hr', at_nth (by omega), .int c, rfl, _, _, rfl, rfl, _, rfl, iteD (fun h => ?_) (fun h => ?_)⟩
    · rw [if_pos h] at q
      exact ⟨x, rfl, q⟩
    · rw [if_neg h] at q
      exact ⟨y, rfl, q⟩
theorem ok_side {f : Addr} {fd : FuncData} (F : Fun K "side_part" "side_part" s_side_part f fd) (gF : mg "side_part" = some (.ref f)) (b : Binds K fd ["expression", "shares"] []) (B : Bl mg) : Cal P w K mg base 1 "side_part" (spSide K) := by
  refine ⟨f, fd, _, F.ok sc_side_part (fun vs H Q E h => ?_) (fun cdv A outer s H vs Q E hr h => ?_), gF, F.kp, b⟩
  · obtain ⟨_, _, _, _, _, _, _, _, rfl, _⟩ := h
    rfl
  · obtain ⟨p, _, x, y, many, j, c, ss, rfl, hp, hj, hc, ⟨r, rfl, hr', hl, hb, h0, h1⟩, q⟩ := h
    refine ⟨_, (pss_cons (ps_asg (pv 0) (pg_tup rfl (pgs_cons (pg_name (i := 2) sc_side_part.nd rfl (.inl rfl)) (pgs_cons (pg_name (i := 3) sc_side_part.nd rfl (.inl rfl)) (pgs_cons (pg_name (i := 4) sc_side_part.nd rfl (.inl rfl)) (pgs_cons (pg_name (i := 5) sc_side_part.nd rfl (.inl rfl)) (pgs_cons (pg_name (i := 6) sc_side_part.nd rfl (.inl rfl)) pgs_nil))))))) (pss_one (ps_ret (pe_ifExp (pt_cmpR op_lt (pe_op op_mul pe_int (pe_ix ix_tup (pv 1) (pv 3) (fun _ _ => rfl))) (pe_op op_mul (pv 4) (pe_callB (cr_sumT rfl) (by rfl) B.sum (by decide +kernel) (pa_cons (pv 1) pa_nil))) (nomark _)) (pv 5) (pv 6))))), ?_⟩
    refine ⟨.ref p, rfl, p, _, rfl, hp, rfl, _, _, rfl, _, _, rfl, _, _, rfl, _, _, rfl, _, _, rfl, rfl, ?_⟩
    refine ⟨.ref r, rfl, .int (j : Int), rfl, r, _, _, _, rfl, rfl, hr', at_nth (by omega), 1000, _, rfl, rfl, .inl ⟨by decide, by decide⟩, .int c, rfl, .ref r, rfl, r, ss, rfl, hr', c, _, rfl, rfl, .inl ⟨by omega, by omega⟩, _, _, rfl, rfl, _, rfl, iteD (fun h => ?_) (fun h => ?_)⟩
    · rw [if_pos h] at q
      exact ⟨x, rfl, q⟩
    · rw [if_neg h] at q
      exact ⟨y, rfl, q⟩
theorem ok_joinW {f : Addr} {fd : FuncData} (F : Fun K "join_worths" "join_worths" s_join_worths f fd) (gF : mg "join_worths" = some (.ref f)) (b : Binds K fd ["word", "first", "second"] []) (B : Bl mg) : Cal P w K mg base 1 "join_worths" spJoinW := by
  refine ⟨f, fd, _, F.ok sc_join_worths (fun vs H Q E h => ?_) (fun cdv A outer s H vs Q E hr h => ?_), gF, F.kp, b⟩
  · obtain ⟨_, _, _, rfl, _⟩ := h
    rfl
  · obtain ⟨o, x, y, rfl, q⟩ := h
    refine ⟨_, (pss_cons (ps_if (pt_cmpR op_eq (pv 0) pe_str (nomark _)) (pss_one (ps_ret (pe_op op_add (pv 1) (pv 2)))) pss_nil) (pss_cons (ps_if (pt_cmpR op_eq (pv 0) pe_str (nomark _)) (pss_one (ps_ret (pe_op op_sub (pv 1) (pv 2)))) pss_nil) (pss_one (ps_ret (pe_ifExp (pt_cmpR op_eq (pv 0) pe_str (nomark _)) (pe_callB (call_min2 rfl) (by rfl) B.min (by decide +kernel) (pa_cons (pv 1) (pa_cons (pv 2) pa_nil))) (pe_callB (call_max2 rfl) (by rfl) B.max (by decide +kernel) (pa_cons (pv 1) (pa_cons (pv 2) pa_nil)))))))), ?_⟩
    refine ⟨_, rfl, rfl, _, rfl, ?_⟩
    cases o with
    | sum =>
      refine iteTT (by decide) ?_
      exact ⟨_, rfl, _, rfl, _, _, rfl, rfl, q⟩
    | less =>
      refine iteFF (by decide) ?_
      refine ⟨_, rfl, rfl, _, rfl, iteTT (by decide) ?_⟩
      exact ⟨_, rfl, _, rfl, _, _, rfl, rfl, q⟩
    | least =>
      refine iteFF (by decide) ?_
      refine ⟨_, rfl, rfl, _, rfl, iteFF (by decide) ?_⟩
      refine ⟨_, rfl, rfl, _, rfl, iteTT (by decide) ?_⟩
      exact ⟨_, rfl, _, rfl, _, _, rfl, q⟩
    | most =>
      refine iteFF (by decide) ?_
      refine ⟨_, rfl, rfl, _, rfl, iteFF (by decide) ?_⟩
      refine ⟨_, rfl, rfl, _, rfl, iteFF (by decide) ?_⟩
      exact ⟨_, rfl, _, rfl, _, _, rfl, q⟩
theorem wn_ne {o : W4} {s : Str} (h : s = "fig" ∨ s = "reg" ∨ s = "share" ∨ s = "times" ∨ s = "by" ∨ s = "when" ∨ s = "where") : decide (V.str (wn o) = V.str s) = false := by
  rcases h with rfl | rfl | rfl | rfl | rfl | rfl | rfl <;> cases o <;> decide
theorem ok_worth {f : Addr} {fd : FuncData} (F : Fun K "worth" "worth" s_worth f fd) (gF : mg "worth" = some (.ref f)) (b : Binds K fd ["expression", "registers", "shares"] []) (B : Bl mg) (c_led_part : Cal P w K mg base 1 "led_part" (spLed K)) (c_side_part : Cal P w K mg base 1 "side_part" (spSide K)) (c_join_worths : Cal P w K mg base 1 "join_worths" spJoinW) : ∀ n, Cal P w K mg base (n + 2) "worth" (spWorth K n) := by
  intro n
  induction n with
  | zero =>
    refine cal_never F gF b fun vs H Q E h => ?_
    obtain ⟨_, _, _, e, _, _, _, _, _, _, hd, _⟩ := h
    cases e <;> (unfold Ex.dep at hd; omega)
  | succ n c_worth =>
  refine ⟨f, fd, _, F.ok sc_worth (fun vs H Q E h => ?_) (fun cdv A outer s H vs Q E hr h => ?_), gF, F.kp, b⟩
  · obtain ⟨_, _, _, _, _, _, _, rfl, _⟩ := h
    rfl
  · obtain ⟨v, _, _, e, many, rs, ss, rfl, he, ho, hd, hR, hS, q⟩ := h
    refine ⟨_, (pss_cons (ps_set (i := 3) sc_worth.nd rfl (.inl rfl) (pe_ix ix_tup (pv 0) pe_int (fun _ _ => rfl))) (pss_cons (ps_if (pt_cmpR op_eq (pv 3) pe_str (nomark _)) (pss_one (ps_ret (pe_op op_mul (pe_ix ix_tup (pv 0) pe_int (fun _ _ => rfl)) (pe_callB (cr_sumT rfl) (by rfl) B.sum (by decide +kernel) (pa_cons (pv 2) pa_nil))))) pss_nil) (pss_cons (ps_if (pt_cmpR op_eq (pv 3) pe_str (nomark _)) (pss_one (ps_ret (pe_op op_mul (pe_ix ix_tup (pv 1) (pe_ix ix_tup (pv 0) pe_int (fun _ _ => rfl)) (fun _ _ => rfl)) (pe_callB (cr_sumT rfl) (by rfl) B.sum (by decide +kernel) (pa_cons (pv 2) pa_nil))))) pss_nil) (pss_cons (ps_if (pt_cmpR op_eq (pv 3) pe_str (nomark _)) (pss_one (ps_ret (pe_op op_mul pe_int (pe_ix ix_tup (pv 2) (pe_ix ix_tup (pv 0) pe_int (fun _ _ => rfl)) (fun _ _ => rfl))))) pss_nil) (pss_cons (ps_if (pt_cmpR op_eq (pv 3) pe_str (nomark _)) (pss_one (ps_ret (pe_op op_mul (pe_ix ix_tup (pv 0) pe_int (fun _ _ => rfl)) (pe_c c_worth hr (by omega) (by rfl) (pa_cons (pe_ix ix_tup (pv 0) pe_int (fun _ _ => rfl)) (pa_cons (pv 1) (pa_cons (pv 2) pa_nil))))))) pss_nil) (pss_cons (ps_if (pt_cmpR op_eq (pv 3) pe_str (nomark _)) (pss_one (ps_ret (pe_op op_mul (pe_ix ix_tup (pv 1) (pe_ix ix_tup (pv 0) pe_int (fun _ _ => rfl)) (fun _ _ => rfl)) (pe_c c_worth hr (by omega) (by rfl) (pa_cons (pe_ix ix_tup (pv 0) pe_int (fun _ _ => rfl)) (pa_cons (pv 1) (pa_cons (pv 2) pa_nil))))))) pss_nil) (pss_cons (ps_if (pt_cmpR op_eq (pv 3) pe_str (nomark _)) (pss_one (ps_ret (pe_c c_worth hr (by omega) (by rfl) (pa_cons (pe_c c_led_part hr (by omega) (by rfl) (pa_cons (pv 0) (pa_cons (pv 1) pa_nil))) (pa_cons (pv 1) (pa_cons (pv 2) pa_nil)))))) pss_nil) (pss_cons (ps_if (pt_cmpR op_eq (pv 3) pe_str (nomark _)) (pss_one (ps_ret (pe_c c_worth hr (by omega) (by rfl) (pa_cons (pe_c c_side_part hr (by omega) (by rfl) (pa_cons (pv 0) (pa_cons (pv 2) pa_nil))) (pa_cons (pv 1) (pa_cons (pv 2) pa_nil)))))) pss_nil) (pss_cons (ps_set (i := 4) sc_worth.nd rfl (.inl rfl) (pe_c c_worth hr (by omega) (by rfl) (pa_cons (pe_ix ix_tup (pv 0) pe_int (fun _ _ => rfl)) (pa_cons (pv 1) (pa_cons (pv 2) pa_nil))))) (pss_cons (ps_set (i := 5) sc_worth.nd rfl (.inl rfl) (pe_c c_worth hr (by omega) (by rfl) (pa_cons (pe_ix ix_tup (pv 0) pe_int (fun _ _ => rfl)) (pa_cons (pv 1) (pa_cons (pv 2) pa_nil))))) (pss_one (ps_ret (pe_c c_join_worths hr (by omega) (by rfl) (pa_cons (pv 3) (pa_cons (pv 4) (pa_cons (pv 5) pa_nil)))))))))))))))), ?_⟩
    have hR0 := hR
    have hS0 := hS
    obtain ⟨r, rfl, hr1, hr2, hr3⟩ := hR
    obtain ⟨t, rfl, ht1, ht2, ht3, ht4, ht5⟩ := hS
    have rb : ∀ i, i < 4 → -1000 ≤ rs.getD i 0 ∧ rs.getD i 0 ≤ 1000 := fun i hi => hr3 _ (getD_mem (by omega))
    cases e with
    | fig c =>
      obtain ⟨p, rfl, hp⟩ := he
      obtain ⟨o1, o2⟩ := ho
      refine ⟨.ref p, rfl, p, _, 0, _, rfl, rfl, hp, rfl, ?_⟩
      refine ⟨_, rfl, rfl, _, rfl, iteTT (by decide) ?_⟩
      exact ⟨.ref p, rfl, p, _, 1, _, rfl, rfl, hp, rfl, .ref t, rfl, t, ss, rfl, ht1, c, _, rfl, rfl, .inl ⟨by omega, by omega⟩, q⟩
    | reg i =>
      obtain ⟨p, rfl, hp⟩ := he
      have ho : i < 4 := ho
      have := rb i ho
      refine ⟨.ref p, rfl, p, _, 0, _, rfl, rfl, hp, rfl, ?_⟩
      refine ⟨_, rfl, rfl, _, rfl, iteFF (by decide) ⟨_, rfl, rfl, _, rfl, iteTT (by decide) ?_⟩⟩
      exact ⟨.ref r, rfl, .ref p, rfl, p, _, 1, _, rfl, rfl, hp, rfl, r, _, _, _, rfl, rfl, hr1, at_nth (by omega), .ref t, rfl, t, ss, rfl, ht1, _, _, rfl, rfl, .inl ⟨by omega, by omega⟩, q⟩
    | share j =>
      obtain ⟨p, rfl, hp⟩ := he
      have ho : j < many := ho
      refine ⟨.ref p, rfl, p, _, 0, _, rfl, rfl, hp, rfl, ?_⟩
      refine ⟨_, rfl, rfl, _, rfl, iteFF (by decide) ⟨_, rfl, rfl, _, rfl, iteFF (by decide) ⟨_, rfl, rfl, _, rfl, iteTT (by decide) ?_⟩⟩⟩
      exact ⟨.ref t, rfl, .ref p, rfl, p, _, 1, _, rfl, rfl, hp, rfl, t, _, _, _, rfl, rfl, ht1, at_nth (by omega), 1000, _, rfl, rfl, .inl ⟨by decide, by decide⟩, q⟩
    | times fa a =>
      obtain ⟨p, x, rfl, hp, ha⟩ := he
      obtain ⟨⟨o1, o2⟩, oa⟩ := ho
      have hd : a.dep + 1 ≤ n + 1 := hd
      refine ⟨.ref p, rfl, p, _, 0, _, rfl, rfl, hp, rfl, ?_⟩
      refine ⟨_, rfl, rfl, _, rfl, iteFF (by decide) ⟨_, rfl, rfl, _, rfl, iteFF (by decide) ⟨_, rfl, rfl, _, rfl, iteFF (by decide) ⟨_, rfl, rfl, _, rfl, iteTT (by decide) ?_⟩⟩⟩⟩
      refine ⟨.ref p, rfl, p, _, 1, _, rfl, rfl, hp, rfl, .ref p, rfl, p, _, 2, _, rfl, rfl, hp, rfl, .ref r, rfl, .ref t, rfl, ?_⟩
      exact ⟨x, _, _, a, many, rs, ss, rfl, ha, oa, by omega, hR0, hS0, fa, _, rfl, rfl, .inl ⟨by omega, by omega⟩, q⟩
    | «by» i a =>
      obtain ⟨p, x, rfl, hp, ha⟩ := he
      obtain ⟨o1, oa⟩ := ho
      have := rb i o1
      have hd : a.dep + 1 ≤ n + 1 := hd
      refine ⟨.ref p, rfl, p, _, 0, _, rfl, rfl, hp, rfl, ?_⟩
      refine ⟨_, rfl, rfl, _, rfl, iteFF (by decide) ⟨_, rfl, rfl, _, rfl, iteFF (by decide) ⟨_, rfl, rfl, _, rfl, iteFF (by decide) ⟨_, rfl, rfl, _, rfl, iteFF (by decide) ⟨_, rfl, rfl, _, rfl, iteTT (by decide) ?_⟩⟩⟩⟩⟩
      refine ⟨.ref r, rfl, .ref p, rfl, p, _, 1, _, rfl, rfl, hp, rfl, r, _, _, _, rfl, rfl, hr1, at_nth (by omega), .ref p, rfl, p, _, 2, _, rfl, rfl, hp, rfl, .ref r, rfl, .ref t, rfl, ?_⟩
      exact ⟨x, _, _, a, many, rs, ss, rfl, ha, oa, by omega, hR0, hS0, _, _, rfl, rfl, .inl ⟨by omega, by omega⟩, q⟩
    | when i c x1 y1 =>
      obtain ⟨p, x, y, rfl, hp, ha, hb⟩ := he
      obtain ⟨o1, _, oa, ob⟩ := ho
      have hd : max x1.dep y1.dep + 1 ≤ n + 1 := hd
      refine ⟨.ref p, rfl, p, _, 0, _, rfl, rfl, hp, rfl, ?_⟩
      refine ⟨_, rfl, rfl, _, rfl, iteFF (by decide) ⟨_, rfl, rfl, _, rfl, iteFF (by decide) ⟨_, rfl, rfl, _, rfl, iteFF (by decide) ⟨_, rfl, rfl, _, rfl, iteFF (by decide) ⟨_, rfl, rfl, _, rfl, iteFF (by decide) ⟨_, rfl, rfl, _, rfl, iteTT (by decide) ?_⟩⟩⟩⟩⟩⟩
      refine ⟨.ref p, rfl, .ref r, rfl, p, _, x, y, i, c, rs, rfl, hp, o1, hR0, .ref r, rfl, .ref t, rfl, ?_⟩
      by_cases hc : rs.getD i 0 < c
      · rw [if_pos hc]
        refine ⟨x, _, _, x1, many, rs, ss, rfl, ha, oa, by omega, hR0, hS0, ?_⟩
        have q2 : Q (.int (if rs.getD i 0 < c then wo rs ss x1 else wo rs ss y1)) H := q
        rw [if_pos hc] at q2
        exact q2
      · rw [if_neg hc]
        refine ⟨y, _, _, y1, many, rs, ss, rfl, hb, ob, by omega, hR0, hS0, ?_⟩
        have q2 : Q (.int (if rs.getD i 0 < c then wo rs ss x1 else wo rs ss y1)) H := q
        rw [if_neg hc] at q2
        exact q2
    | whr j c x1 y1 =>
      obtain ⟨p, x, y, rfl, hp, ha, hb⟩ := he
      obtain ⟨o1, o2, oa, ob⟩ := ho
      have hd : max x1.dep y1.dep + 1 ≤ n + 1 := hd
      refine ⟨.ref p, rfl, p, _, 0, _, rfl, rfl, hp, rfl, ?_⟩
      refine ⟨_, rfl, rfl, _, rfl, iteFF (by decide) ⟨_, rfl, rfl, _, rfl, iteFF (by decide) ⟨_, rfl, rfl, _, rfl, iteFF (by decide) ⟨_, rfl, rfl, _, rfl, iteFF (by decide) ⟨_, rfl, rfl, _, rfl, iteFF (by decide) ⟨_, rfl, rfl, _, rfl, iteFF (by decide) ⟨_, rfl, rfl, _, rfl, iteTT (by decide) ?_⟩⟩⟩⟩⟩⟩⟩
      refine ⟨.ref p, rfl, .ref t, rfl, p, _, x, y, many, j, c, ss, rfl, hp, o1, o2, hS0, .ref r, rfl, .ref t, rfl, ?_⟩
      by_cases hc : 1000 * ss.getD j 0 < c * ss.sum
      · rw [if_pos hc]
        refine ⟨x, _, _, x1, many, rs, ss, rfl, ha, oa, by omega, hR0, hS0, ?_⟩
        have q2 : Q (.int (if 1000 * ss.getD j 0 < c * ss.sum then wo rs ss x1 else wo rs ss y1)) H := q
        rw [if_pos hc] at q2
        exact q2
      · rw [if_neg hc]
        refine ⟨y, _, _, y1, many, rs, ss, rfl, hb, ob, by omega, hR0, hS0, ?_⟩
        have q2 : Q (.int (if 1000 * ss.getD j 0 < c * ss.sum then wo rs ss x1 else wo rs ss y1)) H := q
        rw [if_neg hc] at q2
        exact q2
    | two o x1 y1 =>
      obtain ⟨p, x, y, rfl, hp, ha, hb⟩ := he
      obtain ⟨oa, ob⟩ := ho
      have hd : max x1.dep y1.dep + 1 ≤ n + 1 := hd
      refine ⟨.ref p, rfl, p, _, 0, _, rfl, rfl, hp, rfl, ?_⟩
      refine ⟨_, rfl, rfl, _, rfl, iteFF (wn_ne (by simp)) ⟨_, rfl, rfl, _, rfl, iteFF (wn_ne (by simp)) ⟨_, rfl, rfl, _, rfl, iteFF (wn_ne (by simp)) ⟨_, rfl, rfl, _, rfl, iteFF (wn_ne (by simp)) ⟨_, rfl, rfl, _, rfl, iteFF (wn_ne (by simp)) ⟨_, rfl, rfl, _, rfl, iteFF (wn_ne (by simp)) ⟨_, rfl, rfl, _, rfl, iteFF (wn_ne (by simp)) ?_⟩⟩⟩⟩⟩⟩⟩
      refine ⟨.ref p, rfl, p, _, 1, _, rfl, rfl, hp, rfl, .ref r, rfl, .ref t, rfl, x, _, _, x1, many, rs, ss, rfl, ha, oa, by omega, hR0, hS0, ?_⟩
      refine ⟨.ref p, rfl, p, _, 2, _, rfl, rfl, hp, rfl, .ref r, rfl, .ref t, rfl, y, _, _, y1, many, rs, ss, rfl, hb, ob, by omega, hR0, hS0, ?_⟩
      exact ⟨_, rfl, _, rfl, _, rfl, o, _, _, rfl, q⟩
end
end NG

namespace NG
open PySem PySem.Spec PyProof.Rows L2
section
variable {P : Program} {w : World} {K : PySem.W.Frag} {mg : Str → Option Value} {base : Heap}
theorem ok_parts {f a_SHAPES : Addr} {fd : FuncData} (F : Fun K "parts" "parts" s_parts f fd) (gF : mg "parts" = some (.ref f)) (b : Binds K fd ["expression"] []) (B : Bl mg) (mg_SHAPES : mg "SHAPES" = some (.ref a_SHAPES)) (hSh : Shapes K w a_SHAPES) : Cal P w K mg base 1 "parts" (spParts K) := by
  refine ⟨f, fd, _, F.ok sc_parts (fun vs H Q E h => ?_) (fun cdv A outer s H vs Q E hr h => ?_), gF, F.kp, b⟩
  · obtain ⟨_, _, rfl, _⟩ := h
    rfl
  · obtain ⟨v, e, rfl, he, q⟩ := h
    obtain ⟨p, xs, rfl, hp, hl, hl4, hl0, hrow⟩ := he.lies
    obtain ⟨sq, hkd, hsq⟩ := hSh e
    refine ⟨_, (pss_cons (ps_set (i := 1) sc_parts.nd rfl (.inl rfl) (pe_ix ix_kdict (pe_glob (v := .ref a_SHAPES) (by rfl) mg_SHAPES rfl) (pe_ix ix_tup (pv 0) pe_int (fun _ _ => rfl)) (fun _ _ => rfl))) (pss_one (ps_ret (pe_lc (own := [("kind", 2), ("item", 3)]) rfl sc_parts.nd (RZ.pi_zipA (by rfl) B.zip (pa_cons (pv 1) (pa_cons (pe_slice sl_tup (pv 0) (po_some pe_int) po_none) pa_nil))) (blkOk_by (N := N_parts) (sc := defScope s_parts) (by decide +kernel)) (fun _ _ _ _ _ => pgtK (n := 2) K rfl (pgs_cons (pg_name (i := 2) sc_parts.nd rfl (.inl rfl)) (pgs_cons (pg_name (i := 3) sc_parts.nd rfl (.inl rfl)) pgs_nil))) (fun _ _ _ _ _ => pts_one (pt_cmpR op_eq (pv 2) pe_str (nomark _))) (fun _ _ _ _ _ => pv 3))))), ?_⟩
    refine ⟨.ref p, rfl, p, _, 0, _, rfl, rfl, hp, at_of (j := 0) rfl rfl, a_SHAPES, _, .ref sq, rfl, rfl, hkd, ?_⟩
    have hcut : cutV (V.str (wordOf e) :: xs) (some 1) none = xs := by
      unfold cutV
      rw [show HT.sIx (V.str (wordOf e) :: xs).length 0 (some 1) = min 1 (V.str (wordOf e) :: xs).length from HT.sIx_nat _ 0 1, HT.sIx_none, List.length_cons, show min 1 (xs.length + 1) = 1 by omega]
      show List.take (xs.length + 1 - 1) xs = xs
      rw [Nat.add_sub_cancel, List.take_length]
    refine ⟨.ref sq, rfl, .ref p, rfl, 1, rfl, p, _, rfl, hp, ?_, fun c nc => ?_⟩
    · rw [show HT.sIx (V.str (wordOf e) :: xs).length 0 (some 1) = min 1 (V.str (wordOf e) :: xs).length from HT.sIx_nat _ 0 1, List.length_cons]
      omega
    rw [hcut]
    have smc : Same H (upd H c (.tup xs)) := same_new nc
    have hc : (upd H c (.tup xs)) c = some (.tup xs) := upd_same
    have hlk : ((shapeOf e).map V.str).length = xs.length := by rw [List.length_map]; exact hl.symm
    refine ⟨sq, c, (shapeOf e).map V.str, xs, rfl, .inr ⟨hsq _, SqT.of hc, fun D nD => lc_it (walk_zipT hlk rfl) (fun i H' => Same (upd H c (.tup xs)) H' ∧ H' D = some (.lst (pk ((shapeOf e).take i) (xs.take i)))) ⟨same_new nD, upd_same⟩ (fun i H' _ h => ⟨hsq _, SqT.of (h.1 _ _ hc)⟩) ?_ ?_⟩⟩
    · rintro i x H1 H2 hi ⟨sm, hD⟩ ⟨T, k, it, rfl, nT, rfl, e1, e2⟩
      have e1 : ((shapeOf e).map V.str)[i]? = some k := e1
      have e2 : xs[i]? = some it := e2
      rw [List.getElem?_map] at e1
      cases hk : (shapeOf e)[i]? with
      | none => rw [hk] at e1; cases e1
      | some ks =>
        rw [hk] at e1
        have ek : V.str ks = k := Option.some.inj e1
        subst ek
        have sm2 := sm.trans (same_new (o := .tup [V.str ks, it]) nT)
        have hD2 := same_new (o := .tup [V.str ks, it]) nT _ _ hD
        refine ⟨T, _, rfl, SqT.of upd_same, rfl, _, _, rfl, _, _, rfl, rfl, rfl, .str ks, rfl, rfl, _, rfl, iteD (fun cq => ?_) (fun cq => ?_)⟩
        · refine ⟨it, rfl, _, hD2, ?_, fun b' o eb => ?_, ?_⟩
          · refine small1000 (Nat.le_trans (pk_len _ _) ?_)
            rw [List.length_take]
            omega
          · rw [upd_ne (ne_of_none eb nD)]
            exact sm2 _ _ eb
          · rw [upd_same, pk_snoc hk e2, if_pos cq]
        · refine ⟨sm2, ?_⟩
          rw [hD2, pk_snoc hk e2, if_neg cq, List.append_nil]
    · rintro H1 ⟨sm, hD⟩
      rw [List.take_of_length_le (by rw [hl]; exact Nat.le_refl _), List.take_length] at hD
      have smt := smc.trans sm
      exact q _ D _ smt (smc.free nD) hD (hrow.same smt)
theorem ok_joinS {f : Addr} {fd : FuncData} (F : Fun K "join_spans" "join_spans" s_join_spans f fd) (gF : mg "join_spans" = some (.ref f)) (b : Binds K fd ["word", "first", "second"] []) (B : Bl mg) : Cal P w K mg base 1 "join_spans" (spJoinS K) := by
  refine ⟨f, fd, _, F.ok sc_join_spans (fun vs H Q E h => ?_) (fun cdv A outer s H vs Q E hr h => ?_), gF, F.kp, b⟩
  · obtain ⟨_, _, _, _, _, rfl, _⟩ := h
    rfl
  · obtain ⟨e, _, _, ⟨x1, x2⟩, ⟨y1, y2⟩, rfl, ⟨px, rfl, hx⟩, ⟨py, rfl, hy⟩, q⟩ := h
    refine ⟨_, (pss_cons (ps_asg (pv 1) (pg_tup rfl (pgs_cons (pg_name (i := 3) sc_join_spans.nd rfl (.inl rfl)) (pgs_cons (pg_name (i := 4) sc_join_spans.nd rfl (.inl rfl)) pgs_nil)))) (pss_cons (ps_asg (pv 2) (pg_tup rfl (pgs_cons (pg_name (i := 5) sc_join_spans.nd rfl (.inl rfl)) (pgs_cons (pg_name (i := 6) sc_join_spans.nd rfl (.inl rfl)) pgs_nil)))) (pss_cons (ps_if (pt_cmpR op_eq (pv 0) pe_str (nomark _)) (pss_one (ps_ret (pe_tup (pa_cons (pe_op op_add (pv 3) (pv 5)) (pa_cons (pe_op op_add (pv 4) (pv 6)) pa_nil))))) pss_nil) (pss_cons (ps_if (pt_cmpR op_eq (pv 0) pe_str (nomark _)) (pss_one (ps_ret (pe_tup (pa_cons (pe_op op_sub (pv 3) (pv 6)) (pa_cons (pe_op op_sub (pv 4) (pv 5)) pa_nil))))) pss_nil) (pss_cons (ps_if (pt_cmpR op_eq (pv 0) pe_str (nomark _)) (pss_one (ps_ret (pe_tup (pa_cons (pe_callB (call_min2 rfl) (by rfl) B.min (by decide +kernel) (pa_cons (pv 3) (pa_cons (pv 5) pa_nil))) (pa_cons (pe_callB (call_min2 rfl) (by rfl) B.min (by decide +kernel) (pa_cons (pv 4) (pa_cons (pv 6) pa_nil))) pa_nil))))) pss_nil) (pss_cons (ps_if (pt_cmpR op_eq (pv 0) pe_str (nomark _)) (pss_one (ps_ret (pe_tup (pa_cons (pe_callB (call_max2 rfl) (by rfl) B.max (by decide +kernel) (pa_cons (pv 3) (pa_cons (pv 5) pa_nil))) (pa_cons (pe_callB (call_max2 rfl) (by rfl) B.max (by decide +kernel) (pa_cons (pv 4) (pa_cons (pv 6) pa_nil))) pa_nil))))) pss_nil) (pss_one (ps_ret (pe_tup (pa_cons (pe_callB (call_min2 rfl) (by rfl) B.min (by decide +kernel) (pa_cons (pv 3) (pa_cons (pv 5) pa_nil))) (pa_cons (pe_callB (call_max2 rfl) (by rfl) B.max (by decide +kernel) (pa_cons (pv 4) (pa_cons (pv 6) pa_nil))) pa_nil))))))))))), ?_⟩
    refine ⟨.ref px, rfl, px, _, rfl, hx, rfl, _, _, rfl, _, _, rfl, rfl, .ref py, rfl, py, _, rfl, hy, rfl, _, _, rfl, _, _, rfl, rfl, ?_⟩
    refine ⟨_, rfl, rfl, _, rfl, ?_⟩
    rcases q with ⟨o, a, bb, rfl, q⟩ | ⟨he, q⟩
    · cases o with
      | sum =>
        refine iteTT rfl ?_
        exact ⟨_, rfl, _, rfl, _, _, rfl, rfl, _, rfl, _, rfl, _, _, rfl, rfl, (by show 2 ≤ sizeLine; decide), fun p np => q _ _ (same_new np) ⟨p, rfl, SqT.of upd_same⟩⟩
      | less =>
        refine iteFF rfl ⟨_, rfl, rfl, _, rfl, iteTT rfl ?_⟩
        exact ⟨_, rfl, _, rfl, _, _, rfl, rfl, _, rfl, _, rfl, _, _, rfl, rfl, (by show 2 ≤ sizeLine; decide), fun p np => q _ _ (same_new np) ⟨p, rfl, SqT.of upd_same⟩⟩
      | least =>
        refine iteFF rfl ⟨_, rfl, rfl, _, rfl, iteFF rfl ⟨_, rfl, rfl, _, rfl, iteTT rfl ?_⟩⟩
        exact ⟨_, rfl, _, rfl, _, _, rfl, _, rfl, _, rfl, _, _, rfl, (by show 2 ≤ sizeLine; decide), fun p np => q _ _ (same_new np) ⟨p, rfl, SqT.of upd_same⟩⟩
      | most =>
        refine iteFF rfl ⟨_, rfl, rfl, _, rfl, iteFF rfl ⟨_, rfl, rfl, _, rfl, iteFF rfl ⟨_, rfl, rfl, _, rfl, iteTT rfl ?_⟩⟩⟩
        exact ⟨_, rfl, _, rfl, _, _, rfl, _, rfl, _, rfl, _, _, rfl, (by show 2 ≤ sizeLine; decide), fun p np => q _ _ (same_new np) ⟨p, rfl, SqT.of upd_same⟩⟩
    · have hw : wordOf e = "when" ∨ wordOf e = "where" := by
        rcases he with ⟨_, _, _, _, rfl⟩ | ⟨_, _, _, _, rfl⟩
        · exact .inl rfl
        · exact .inr rfl
      have nn : ∀ s : Str, s = "sum" ∨ s = "less" ∨ s = "least" ∨ s = "most" → decide (V.str (wordOf e) = V.str s) = false := fun s hs => by
        rcases hw with h | h <;> rw [h] <;> rcases hs with rfl | rfl | rfl | rfl <;> decide
      refine iteFF (nn _ (by simp)) ⟨_, rfl, rfl, _, rfl, iteFF (nn _ (by simp)) ⟨_, rfl, rfl, _, rfl, iteFF (nn _ (by simp)) ⟨_, rfl, rfl, _, rfl, iteFF (nn _ (by simp)) ?_⟩⟩⟩
      exact ⟨_, rfl, _, rfl, _, _, rfl, _, rfl, _, rfl, _, _, rfl, (by show 2 ≤ sizeLine; decide), fun p np => q _ _ (same_new np) ⟨p, rfl, SqT.of upd_same⟩⟩
end
end NG

namespace NG
open PySem PySem.Spec PyProof.Rows L2
section
variable {P : Program} {w : World} {K : PySem.W.Frag} {mg : Str → Option Value} {base : Heap}
theorem ok_span {f : Addr} {fd : FuncData} (F : Fun K "span" "span" s_span f fd) (gF : mg "span" = some (.ref f)) (b : Binds K fd ["expression"] []) (B : Bl mg) (c_parts : Cal P w K mg base 1 "parts" (spParts K)) (c_join_spans : Cal P w K mg base 1 "join_spans" (spJoinS K)) : ∀ n, Cal P w K mg base (n + 2) "span" (spSpan K n) := by
  intro n
  induction n with
  | zero =>
    refine cal_never F gF b fun vs H Q E h => ?_
    obtain ⟨_, e, _, _, _, _, hd, _⟩ := h
    cases e <;> (unfold Ex.dep at hd; omega)
  | succ n c_span =>
  refine ⟨f, fd, _, F.ok sc_span (fun vs H Q E h => ?_) (fun cdv A outer s H vs Q E hr h => ?_), gF, F.kp, b⟩
  · obtain ⟨_, _, _, rfl, _⟩ := h
    rfl
  · obtain ⟨v, e, many, rfl, he, ho, hd, q⟩ := h
    refine ⟨_, (pss_cons (ps_set (i := 1) sc_span.nd rfl (.inl rfl) (pe_ix ix_tup (pv 0) pe_int (fun _ _ => rfl))) (pss_cons (ps_if (pt_cmpR op_eq (pv 1) pe_str (nomark _)) (pss_one (ps_ret (pe_tup (pa_cons (pe_ix ix_tup (pv 0) pe_int (fun _ _ => rfl)) (pa_cons (pe_ix ix_tup (pv 0) pe_int (fun _ _ => rfl)) pa_nil))))) pss_nil) (pss_cons (ps_if (pt_cmpR op_eq (pv 1) pe_str (nomark _)) (pss_one (ps_ret (pe_tup (pa_cons (pe_un un_neg pe_int) (pa_cons pe_int pa_nil))))) pss_nil) (pss_cons (ps_if (pt_cmpR op_eq (pv 1) pe_str (nomark _)) (pss_one (ps_ret (pe_tup (pa_cons pe_int (pa_cons pe_int pa_nil))))) pss_nil) (pss_cons (ps_setLc (i := 2) (own := [("part", 3)]) rfl sc_span.nd rfl rfl (sw_true rfl rfl rfl (by decide +kernel)) (pi_list (pe_c c_parts hr (by omega) (by rfl) (pa_cons (pv 0) pa_nil))) (blkOk_by (N := N_span) (sc := defScope s_span) (by decide +kernel)) (fun _ _ _ _ _ => pg_name (i := 3) sc_span.nd rfl (.inl rfl)) (fun _ _ _ _ _ => pts_nil) (fun _ _ _ _ _ => pe_c c_span hr (by omega) (by rfl) (pa_cons (pv 3) pa_nil))) (pss_cons (ps_if (pt_cmpR op_eq (pv 1) pe_str (nomark _)) (pss_cons (ps_setLc (i := 4) (own := [("end", 5)]) rfl sc_span.nd rfl rfl (sw_true rfl rfl rfl (by decide +kernel)) (pi_tup (pe_ix ix_list (pv 2) pe_int (fun _ _ => rfl))) (blkOk_by (N := N_span) (sc := defScope s_span) (by decide +kernel)) (fun _ _ _ _ _ => pg_name (i := 5) sc_span.nd rfl (.inl rfl)) (fun _ _ _ _ _ => pts_nil) (fun _ _ _ _ _ => pe_op op_mul (pe_ix (ixt K) (pv 0) pe_int (fun _ _ => rfl)) (pv 5))) (pss_one (ps_ret (pe_tup (pa_cons (pe_callB (cr_min rfl) (by rfl) B.min (by decide +kernel) (pa_cons (pv 4) pa_nil)) (pa_cons (pe_callB (cr_max rfl) (by rfl) B.max (by decide +kernel) (pa_cons (pv 4) pa_nil)) pa_nil)))))) pss_nil) (pss_cons (ps_if (pt_cmpR op_eq (pv 1) pe_str (nomark _)) (pss_cons (ps_set (i := 6) sc_span.nd rfl (.inl rfl) (pe_callB (cr_max rfl) (by rfl) B.max (by decide +kernel) (pa_cons (pe_lc (own := [("end", 5)]) rfl sc_span.nd (pi_tup (pe_ix ix_list (pv 2) pe_int (fun _ _ => rfl))) (blkOk_by (N := N_span) (sc := defScope s_span) (by decide +kernel)) (fun _ _ _ _ _ => pg_name (i := 5) sc_span.nd rfl (.inl rfl)) (fun _ _ _ _ _ => pts_nil) (fun _ _ _ _ _ => pe_callB call_abs (by rfl) B.abs (by decide +kernel) (pa_cons (pv 5) pa_nil))) pa_nil))) (pss_one (ps_ret (pe_tup (pa_cons (pe_op op_mul (pe_un un_neg pe_int) (pv 6)) (pa_cons (pe_op op_mul pe_int (pv 6)) pa_nil)))))) pss_nil) (pss_one (ps_ret (pe_c c_join_spans hr (by omega) (by rfl) (pa_cons (pv 1) (pa_cons (pe_ix ix_list (pv 2) pe_int (fun _ _ => rfl)) (pa_cons (pe_ix ix_list (pv 2) pe_int (fun _ _ => rfl)) pa_nil))))))))))))), ?_⟩
    obtain ⟨p, xs, rfl, hp, hl, hl4, hl0, hrow⟩ := he.lies
    refine ⟨.ref p, rfl, p, _, 0, _, rfl, rfl, hp, at_of (j := 0) rfl rfl, ?_⟩
    refine ⟨_, rfl, rfl, _, rfl, ?_⟩
    by_cases hleaf : e.kids = []
    · cases e with
      | fig c =>
        refine iteTT rfl ?_
        have hp : SqT K H p [.str "fig", .int c] := by
          obtain ⟨p', e', q'⟩ := he
          cases e'
          exact q'
        exact ⟨.ref p, rfl, p, _, 1, _, rfl, rfl, hp, rfl, .ref p, rfl, p, _, 1, _, rfl, rfl, hp, rfl, (by show 2 ≤ sizeLine; decide), fun t nt => q _ _ (same_new nt) ⟨t, rfl, SqT.of upd_same⟩⟩
      | reg i =>
        refine iteFF rfl ⟨_, rfl, rfl, _, rfl, iteTT rfl ?_⟩
        exact ⟨_, rfl, (by show 2 ≤ sizeLine; decide), fun t nt => q _ _ (same_new nt) ⟨t, rfl, SqT.of upd_same⟩⟩
      | share j =>
        refine iteFF rfl ⟨_, rfl, rfl, _, rfl, iteFF rfl ⟨_, rfl, rfl, _, rfl, iteTT rfl ?_⟩⟩
        exact ⟨(by show 2 ≤ sizeLine; decide), fun t nt => q _ _ (same_new nt) ⟨t, rfl, SqT.of upd_same⟩⟩
      | two o a b => cases hleaf
      | times f a => cases hleaf
      | «by» i a => cases hleaf
      | when i c a b => cases hleaf
      | whr i c a b => cases hleaf
    · have nn : ∀ s : Str, s = "fig" ∨ s = "reg" ∨ s = "share" → decide (V.str (wordOf e) = V.str s) = false := fun s hs => by
        cases e with
        | fig c => exact absurd rfl hleaf
        | reg c => exact absurd rfl hleaf
        | share c => exact absurd rfl hleaf
        | two o a b => rcases hs with rfl | rfl | rfl <;> exact wn_ne (by simp)
        | times f a => rcases hs with rfl | rfl | rfl <;> rfl
        | «by» i a => rcases hs with rfl | rfl | rfl <;> rfl
        | when i c a b => rcases hs with rfl | rfl | rfl <;> rfl
        | whr i c a b => rcases hs with rfl | rfl | rfl <;> rfl
      refine iteFF (nn _ (by simp)) ⟨_, rfl, rfl, _, rfl, iteFF (nn _ (by simp)) ⟨_, rfl, rfl, _, rfl, iteFF (nn _ (by simp)) ?_⟩⟩
      refine ⟨.ref p, rfl, .ref p, e, rfl, he, fun H1 l xs1 sm1 nl hl1 hrow1 => ⟨l, rfl, ⟨_, SqL.of hl1⟩, fun D nD => lc_list (xs := xs1) (fun i H' => Same H1 H' ∧ ∃ us, H' D = some (.lst us) ∧ SpsAt K H' us ((e.kids.take i).map spn)) ⟨same_new nD, [], upd_same, trivial⟩ (fun i H' _ h => SqL.of (h.1 _ _ hl1)) ?_ ?_⟩⟩
      · rintro i x H2 hx ⟨sm2, us, hD, hus⟩
        obtain ⟨k, hk, xk⟩ := hrow1.get' hx
        have hkm := List.mem_of_getElem? hk
        have hkd := kids_dep e k hkm
        refine ⟨rfl, tYes_in ?_⟩
        refine ⟨x, rfl, x, k, many, rfl, xk.same sm2, kids_ok e k ho hkm, by omega, fun H3 u sm3 hu => ?_⟩
        have hD3 := sm3 _ _ hD
        have hlen := hus.len
        rw [List.length_map, List.length_take] at hlen
        have hkl : e.kids.length ≤ 2 := by cases e <;> simp [Ex.kids]
        refine ⟨us, hD3, small1000 (by omega), fun b' o eb => ?_, us ++ [u], upd_same, ?_⟩
        · rw [upd_ne (ne_of_none eb nD)]
          exact sm3 _ _ (sm2 _ _ eb)
        · rw [List.take_add_one, hk, List.map_append]
          refine SpsAt.snoc (s := spn k) (v := u) ?_ ((hus.imp fun _ _ q => same_sqt sm3 q).imp fun _ _ q => put_sqt hD3 q)
          obtain ⟨pu, eu, qu⟩ := hu
          exact ⟨pu, eu, put_sqt hD3 qu⟩
      · rintro H2 ⟨sm2, us, hD, hus⟩
        rw [hrow1.len, List.take_length] at hus
        have sm02 := sm1.trans sm2
        clear hrow1 hl1 nD nl
        have hp2 := same_sqt sm02 hp
        refine ⟨_, rfl, rfl, _, rfl, ?_⟩
        cases e with
        | fig c => exact absurd rfl hleaf
        | reg c => exact absurd rfl hleaf
        | share c => exact absurd rfl hleaf
        | times fa a =>
          obtain ⟨⟨o1, o2⟩, oa⟩ := ho
          refine iteTT rfl ?_
          obtain ⟨pu, rfl, hu⟩ := hus.one
          obtain ⟨p', x', e', q', _⟩ := he
          cases e'
          have hpf := same_sqt sm02 q'
          refine ⟨.ref D, rfl, D, _, 0, _, rfl, rfl, SqL.of hD, rfl, pu, rfl, ⟨_, hu⟩, fun D2 nD2 => lc_tup (xs := [(spn a).1, (spn a).2].map V.int) (fun i H' => Same H2 H' ∧ H' D2 = some (.lst ((([(spn a).1, (spn a).2].take i).map (fa * ·)).map V.int))) ⟨same_new nD2, upd_same⟩ (fun i H' _ h => same_sqt h.1 hu) ?_ ?_⟩
          · rintro i v H3 hv ⟨sm3, hD2⟩
            obtain ⟨z, rfl, hz⟩ := int_at hv
            have hi2 : i < 2 := (List.getElem?_eq_some_iff.mp hz).1
            refine ⟨rfl, tYes_in ?_⟩
            refine ⟨.ref p, rfl, p, _, 1, _, rfl, rfl, same_sqt sm3 hpf, rfl, .int z, rfl, fa, z, rfl, rfl, .inl ⟨by omega, by omega⟩, _, hD2, ?_, fun b' o eb => ?_, ?_⟩
            · rw [List.length_map, List.length_map, List.length_take]
              exact small1000 (by omega)
            · rw [upd_ne (ne_of_none eb nD2)]
              exact sm3 _ _ eb
            · rw [upd_same, List.take_add_one, hz, List.map_append, List.map_append]
              rfl
          · rintro H3 ⟨sm3, hD2⟩
            refine ⟨.ref D2, rfl, D2, [fa * (spn a).1, fa * (spn a).2], rfl, SqL.of hD2, (by show 0 < 2; decide), fun m hm hle => ⟨.ref D2, rfl, D2, [fa * (spn a).1, fa * (spn a).2], rfl, SqL.of hD2, (by show 0 < 2; decide), fun M hM hge => ⟨(by show 2 ≤ sizeLine; decide), fun t nt => ?_⟩⟩⟩
            rw [mn_of hm hle, mx_of hM hge]
            exact q _ _ (sm02.trans (sm3.trans (same_new nt))) ⟨t, rfl, SqT.of upd_same⟩
        | «by» i a =>
          refine iteFF rfl ⟨_, rfl, rfl, _, rfl, iteTT rfl ?_⟩
          obtain ⟨pu, rfl, hu⟩ := hus.one
          refine ⟨.ref D, rfl, D, _, 0, _, rfl, rfl, SqL.of hD, rfl, pu, rfl, ⟨_, hu⟩, fun D2 nD2 => lc_tup (xs := [(spn a).1, (spn a).2].map V.int) (fun i H' => Same H2 H' ∧ H' D2 = some (.lst ((([(spn a).1, (spn a).2].take i).map ab).map V.int))) ⟨same_new nD2, upd_same⟩ (fun i H' _ h => same_sqt h.1 hu) ?_ ?_⟩
          · rintro i v H3 hv ⟨sm3, hD2⟩
            obtain ⟨z, rfl, hz⟩ := int_at hv
            have hi2 : i < 2 := (List.getElem?_eq_some_iff.mp hz).1
            refine ⟨rfl, tYes_in ?_⟩
            refine ⟨.int z, rfl, z, rfl, _, hD2, ?_, fun b' o eb => ?_, ?_⟩
            · rw [List.length_map, List.length_map, List.length_take]
              exact small1000 (by omega)
            · rw [upd_ne (ne_of_none eb nD2)]
              exact sm3 _ _ eb
            · rw [upd_same, List.take_add_one, hz, List.map_append, List.map_append]
              rfl
          · rintro H3 ⟨sm3, hD2⟩
            refine ⟨D2, [ab (spn a).1, ab (spn a).2], rfl, SqL.of hD2, (by show 0 < 2; decide), fun M hM hge => ?_⟩
            rw [mx_of hM hge]
            refine ⟨_, rfl, .int _, rfl, _, _, rfl, rfl, .inl ⟨by decide, by decide⟩, .int _, rfl, _, _, rfl, rfl, .inl ⟨by decide, by decide⟩, (by show 2 ≤ sizeLine; decide), fun t nt => ?_⟩
            exact q _ _ (sm02.trans (sm3.trans (same_new nt))) ⟨t, rfl, SqT.of upd_same⟩
        | two o a b =>
          refine iteFF (wn_ne (by simp)) ⟨_, rfl, rfl, _, rfl, iteFF (wn_ne (by simp)) ?_⟩
          obtain ⟨pu, pw, rfl, hu, hw⟩ := hus.pair
          refine ⟨_, rfl, .ref D, rfl, D, _, 0, _, rfl, rfl, SqL.of hD, rfl, .ref D, rfl, D, _, 1, _, rfl, rfl, SqL.of hD, rfl, .two o a b, _, _, spn a, spn b, rfl, ⟨pu, rfl, hu⟩, ⟨pw, rfl, hw⟩, .inl ⟨o, a, b, rfl, fun H3 v sm3 hv => ?_⟩⟩
          exact q _ _ (sm02.trans sm3) hv
        | when i c a b =>
          refine iteFF rfl ⟨_, rfl, rfl, _, rfl, iteFF rfl ?_⟩
          obtain ⟨pu, pw, rfl, hu, hw⟩ := hus.pair
          refine ⟨_, rfl, .ref D, rfl, D, _, 0, _, rfl, rfl, SqL.of hD, rfl, .ref D, rfl, D, _, 1, _, rfl, rfl, SqL.of hD, rfl, .when i c a b, _, _, spn a, spn b, rfl, ⟨pu, rfl, hu⟩, ⟨pw, rfl, hw⟩, .inr ⟨.inl ⟨i, c, a, b, rfl⟩, fun H3 v sm3 hv => ?_⟩⟩
          exact q _ _ (sm02.trans sm3) hv
        | whr i c a b =>
          refine iteFF rfl ⟨_, rfl, rfl, _, rfl, iteFF rfl ?_⟩
          obtain ⟨pu, pw, rfl, hu, hw⟩ := hus.pair
          refine ⟨_, rfl, .ref D, rfl, D, _, 0, _, rfl, rfl, SqL.of hD, rfl, .ref D, rfl, D, _, 1, _, rfl, rfl, SqL.of hD, rfl, .whr i c a b, _, _, spn a, spn b, rfl, ⟨pu, rfl, hu⟩, ⟨pw, rfl, hw⟩, .inr ⟨.inr ⟨i, c, a, b, rfl⟩, fun H3 v sm3 hv => ?_⟩⟩
          exact q _ _ (sm02.trans sm3) hv
end
end NG

namespace NG
open PySem PySem.Spec PyProof.Rows L2
section
variable {P : Program} {w : World} {K : PySem.W.Frag} {mg : Str → Option Value} {base : Heap}
theorem ok_leaf {f : Addr} {fd : FuncData} (F : Fun K "_law_leaf" "_law_leaf" s_L_leaf f fd) (gF : mg "_law_leaf" = some (.ref f)) (b : Binds K fd ["_law_hand_here", "_law_many"] []) (B : Bl mg) (c_L_take : Cal P w K mg base 1 "_law_take" spTake) (c_L_figure : Cal P w K mg base 3 "_law_figure" spFigure) : Cal P w K mg base 4 "_law_leaf" (spLeaf K) := by
  refine ⟨f, fd, _, F.ok sc_L_leaf (fun vs H Q E h => ?_) (fun cdv A outer s H vs Q E hr h => ?_), gF, F.kp, b⟩
  · obtain ⟨_, _, _, rfl, _⟩ := h
    rfl
  · obtain ⟨a, many, n, rfl, hm1, hm2, hh, hn, q⟩ := h
    refine ⟨_, (pss_cons (ps_set (i := 2) sc_L_leaf.nd rfl (.inl rfl) (pe_c c_L_take hr (by omega) (by rfl) (pa_cons (pv 0) (pa_cons pe_int pa_nil)))) (pss_cons (ps_if (pt_cmpR op_eq (pv 2) pe_int (nomark _)) (pss_one (ps_ret (pe_tup (pa_cons pe_str (pa_cons (pe_c c_L_take hr (by omega) (by rfl) (pa_cons (pv 0) (pa_cons pe_int pa_nil))) pa_nil))))) pss_nil) (pss_one (ps_ret (pe_ifExp (pt_cmpR op_eq (pv 2) pe_int (nomark _)) (pe_tup (pa_cons pe_str (pa_cons (pe_c c_L_figure hr (by omega) (by rfl) (pa_cons (pv 0) pa_nil)) pa_nil))) (pe_tup (pa_cons pe_str (pa_cons (pe_c c_L_take hr (by omega) (by rfl) (pa_cons (pv 0) (pa_cons (pv 1) pa_nil))) pa_nil)))))))), ?_⟩
    refine ⟨.ref a, rfl, a, 4, n, rfl, by decide, by decide, hh, by omega, fun H1 r b1 hh1 r0 r1 => ?_⟩
    refine ⟨.int r, rfl, rfl, _, rfl, iteD (fun c => ?_) (fun c => ?_)⟩
    · refine ⟨.ref a, rfl, a, 4, n + 1, rfl, by decide, by decide, hh1, by omega, fun H2 r2 b2 hh2 r20 r21 => ⟨(by show 2 ≤ sizeLine; decide), fun p np => ?_⟩⟩
      refine q _ _ (.reg r2.toNat) ((b1.trans b2).trans (But.new np)) ((hh2.new np).le (by omega)) ⟨p, rfl, ?_⟩ (by show r2.toNat < 4; omega) (Nat.le_refl _)
      rw [Int.toNat_of_nonneg r20]
      exact SqT.of upd_same
    · refine ⟨.int r, rfl, rfl, _, rfl, iteD (fun c => ?_) (fun c => ?_)⟩
      · refine ⟨.ref a, rfl, a, n + 1, rfl, hh1, by omega, fun H2 r2 b2 hh2 r20 r21 => ⟨(by show 2 ≤ sizeLine; decide), fun p np => ?_⟩⟩
        exact q _ _ (.fig r2) ((b1.trans b2).trans (But.new np)) ((hh2.new np).le (by omega)) ⟨p, rfl, SqT.of upd_same⟩ ⟨r20, r21⟩ (Nat.le_refl _)
      · refine ⟨.ref a, rfl, .int (many : Int), rfl, a, _, n + 1, rfl, by omega, by omega, hh1, by omega, fun H2 r2 b2 hh2 r20 r21 => ⟨(by show 2 ≤ sizeLine; decide), fun p np => ?_⟩⟩
        refine q _ _ (.share r2.toNat) ((b1.trans b2).trans (But.new np)) ((hh2.new np).le (by omega)) ⟨p, rfl, ?_⟩ (by show r2.toNat < many; omega) (Nat.le_refl _)
        rw [Int.toNat_of_nonneg r20]
        exact SqT.of upd_same
def isW (s : Str) : Prop := s = "sum" ∨ s = "less" ∨ s = "least" ∨ s = "most" ∨ s = "times" ∨ s = "by" ∨ s = "when" ∨ s = "leaf" ∨ s = "where"
theorem ok_expr {f : Addr} {fd : FuncData} (F : Fun K "_law_expression" "_law_expression" s_L_expression f fd) (gF : mg "_law_expression" = some (.ref f)) (b : Binds K fd ["_law_hand_here", "_law_many", "_law_level", "_law_jumps"] []) (B : Bl mg) (c_L_take : Cal P w K mg base 1 "_law_take" spTake) (c_L_of : Cal P w K mg base 2 "_law_of" (spOf K)) (c_L_figure : Cal P w K mg base 3 "_law_figure" spFigure) (c_L_leaf : Cal P w K mg base 4 "_law_leaf" (spLeaf K)) : ∀ n, Cal P w K mg base (n + 4) "_law_expression" (spExpr K n) := by
  intro n
  induction n with
  | zero =>
    refine cal_never F gF b fun vs H Q E h => ?_
    obtain ⟨_, _, l, _, _, hl, _⟩ := h
    omega
  | succ n c_L_expression =>
  refine ⟨f, fd, _, F.ok sc_L_expression (fun vs H Q E h => ?_) (fun cdv A outer s H vs Q E hr h => ?_), gF, F.kp, b⟩
  · obtain ⟨_, _, _, _, rfl, _⟩ := h
    rfl
  · obtain ⟨a, many, l, k, rfl, hl, hm1, hm2, hh, hk, q⟩ := h
    refine ⟨_, (pss_cons (ps_set (i := 4) sc_L_expression.nd rfl (.inl rfl) (pe_lst (pa_cons pe_str (pa_cons pe_str (pa_cons pe_str (pa_cons pe_str (pa_cons pe_str (pa_cons pe_str (pa_cons pe_str (pa_cons pe_str (pa_cons pe_str (pa_cons pe_str pa_nil)))))))))))) (pss_cons (ps_set (i := 4) sc_L_expression.nd rfl (.inl rfl) (pe_op op_cat (pv 4) (pe_op op_rep (pe_lst (pa_cons pe_str (pa_cons pe_str pa_nil))) (pv 3)))) (pss_cons (ps_set (i := 5) sc_L_expression.nd rfl (.inl rfl) (pe_cut (pe_ifExp (pt_cmpR op_eq (pv 2) pe_int (nomark _)) pe_str (pe_c c_L_of hr (by omega) (by rfl) (pa_cons (pv 0) (pa_cons (pv 4) pa_nil)))))) (pss_cons (ps_if (pt_cmpR op_eq (pv 5) pe_str (nomark _)) (pss_one (ps_ret (pe_c c_L_leaf hr (by omega) (by rfl) (pa_cons (pv 0) (pa_cons (pv 1) pa_nil))))) pss_nil) (pss_cons (ps_set (i := 6) sc_L_expression.nd rfl (.inl rfl) (pe_c c_L_expression hr (by omega) (by rfl) (pa_cons (pv 0) (pa_cons (pv 1) (pa_cons (pe_op op_sub (pv 2) pe_int) (pa_cons (pv 3) pa_nil)))))) (pss_cons (ps_if (pt_cmpR op_eq (pv 5) pe_str (nomark _)) (pss_one (ps_ret (pe_tup (pa_cons (pv 5) (pa_cons (pe_op op_sub (pe_c c_L_take hr (by omega) (by rfl) (pa_cons (pv 0) (pa_cons pe_int pa_nil))) pe_int) (pa_cons (pv 6) pa_nil)))))) pss_nil) (pss_cons (ps_if (pt_cmpR op_eq (pv 5) pe_str (nomark _)) (pss_one (ps_ret (pe_tup (pa_cons (pv 5) (pa_cons (pe_c c_L_take hr (by omega) (by rfl) (pa_cons (pv 0) (pa_cons pe_int pa_nil))) (pa_cons (pv 6) pa_nil)))))) pss_nil) (pss_cons (ps_set (i := 7) sc_L_expression.nd rfl (.inl rfl) (pe_c c_L_expression hr (by omega) (by rfl) (pa_cons (pv 0) (pa_cons (pv 1) (pa_cons (pe_op op_sub (pv 2) pe_int) (pa_cons (pv 3) pa_nil)))))) (pss_cons (ps_if (pt_cmpR op_eq (pv 5) pe_str (nomark _)) (pss_one (ps_ret (pe_tup (pa_cons (pv 5) (pa_cons (pe_c c_L_take hr (by omega) (by rfl) (pa_cons (pv 0) (pa_cons pe_int pa_nil))) (pa_cons (pe_c c_L_figure hr (by omega) (by rfl) (pa_cons (pv 0) pa_nil)) (pa_cons (pv 6) (pa_cons (pv 7) pa_nil)))))))) pss_nil) (pss_cons (ps_if (pt_cmpR op_eq (pv 5) pe_str (nomark _)) (pss_cons (ps_set (i := 8) sc_L_expression.nd rfl (.inl rfl) (pe_c c_L_of hr (by omega) (by rfl) (pa_cons (pv 0) (pa_cons (pe_lst (pa_cons pe_int (pa_cons pe_int (pa_cons pe_int (pa_cons pe_int (pa_cons pe_int (pa_cons (pe_op op_add pe_int (pe_c c_L_take hr (by omega) (by rfl) (pa_cons (pv 0) (pa_cons pe_int pa_nil)))) pa_nil))))))) pa_nil)))) (pss_one (ps_ret (pe_tup (pa_cons (pv 5) (pa_cons (pe_c c_L_take hr (by omega) (by rfl) (pa_cons (pv 0) (pa_cons (pv 1) pa_nil))) (pa_cons (pv 8) (pa_cons (pv 6) (pa_cons (pv 7) pa_nil))))))))) pss_nil) (pss_one (ps_ret (pe_tup (pa_cons (pv 5) (pa_cons (pv 6) (pa_cons (pv 7) pa_nil)))))))))))))))), ?_⟩
    refine ⟨(by show 10 ≤ sizeLine; decide), fun p1 n1 => ?_⟩
    have hh1 := hh.new (o := .lst [.str "sum", .str "less", .str "least", .str "most", .str "least", .str "most", .str "times", .str "by", .str "when", .str "leaf"]) n1
    refine ⟨.ref p1, rfl, (by show 2 ≤ sizeLine; decide), fun p2 n2 => ?_⟩
    have e1 : (upd H p1 (.lst [.str "sum", .str "less", .str "least", .str "most", .str "least", .str "most", .str "times", .str "by", .str "when", .str "leaf"])) p1 = _ := upd_same
    have hh2 := hh1.new (o := .lst [.str "where", .str "where"]) n2
    refine ⟨.int 1, rfl, p2, 1, _, rfl, rfl, upd_same, by decide, by decide, (by show 2 * 1 ≤ sizeLine; decide), fun p3 n3 => ?_⟩
    have hh3 := hh2.new (o := .lst [.str "where", .str "where"]) n3
    have e2 : (upd (upd H p1 (.lst [.str "sum", .str "less", .str "least", .str "most", .str "least", .str "most", .str "times", .str "by", .str "when", .str "leaf"])) p2 (.lst [.str "where", .str "where"])) p1 = _ := (upd_ne (ne_of_none e1 n2)).trans e1
    refine ⟨p1, p3, _, _, rfl, rfl, (upd_ne (ne_of_none e2 n3)).trans e2, upd_same, (by show 12 ≤ sizeLine; decide), fun p4 n4 => ?_⟩
    have hh4 := hh3.new (o := .lst [.str "sum", .str "less", .str "least", .str "most", .str "least", .str "most", .str "times", .str "by", .str "when", .str "leaf", .str "where", .str "where"]) n4
    have b4 : But a H _ := (((But.new (a := a) n1).trans (But.new n2)).trans (But.new n3)).trans (But.new (o := .lst [.str "sum", .str "less", .str "least", .str "most", .str "least", .str "most", .str "times", .str "by", .str "when", .str "leaf", .str "where", .str "where"]) n4)
    have ne4 := hh3.ne n4
    -- the word
    refine ⟨fun v H' => But a H H' ∧ HandAt H' a (k + 1) ∧ ∃ s : Str, v = .str s ∧ isW s ∧ (l = 0 → s = "leaf"), ?_, fun v H5 hv => ?_⟩
    · refine ⟨.int (l : Int), rfl, rfl, _, rfl, iteD (fun c => ?_) (fun c => ?_)⟩
      · exact ⟨b4, hh4.le (by omega), _, rfl, by unfold isW; simp, fun _ => rfl⟩
      · refine ⟨.ref a, rfl, .ref p4, rfl, a, p4, _, k, rfl, ne4.symm, upd_same, (by show 0 < 12; decide), (by show 12 ≤ 1000; decide), hh4, by omega, fun H5 v b5 hh5 hv => ⟨b4.trans b5, hh5, ?_⟩⟩
        have hl0 : l ≠ 0 := fun z => c (by rw [z]; rfl)
        have key : ∃ s : Str, v = .str s ∧ isW s := by
          have hv : v ∈ ([.str "sum", .str "less", .str "least", .str "most", .str "least", .str "most", .str "times", .str "by", .str "when", .str "leaf", .str "where", .str "where"] : List V) := hv
          simp only [List.mem_cons, List.not_mem_nil, or_false] at hv
          rcases hv with rfl | rfl | rfl | rfl | rfl | rfl | rfl | rfl | rfl | rfl | rfl | rfl
          all_goals exact ⟨_, rfl, by unfold isW; simp⟩
        obtain ⟨s, rfl, hs⟩ := key
        exact ⟨s, rfl, hs, fun z => absurd z hl0⟩
    obtain ⟨b5, hh5, sw, rfl, hw, hl0⟩ := hv
    refine ⟨.str sw, rfl, rfl, _, rfl, iteD (fun c => ?_) (fun c => ?_)⟩
    · refine ⟨.ref a, rfl, .int (many : Int), rfl, a, many, k + 1, rfl, hm1, hm2, hh5, by have := cost_ge l; omega, fun H6 v e b6 hh6 he ho hd => ?_⟩
      exact q _ _ e (b5.trans b6) (hh6.le (by have := cost_ge l; omega)) he ho (by omega)
    · have hsl : sw ≠ "leaf" := fun z => c (by rw [z])
      obtain ⟨l', rfl⟩ : ∃ l', l = l' + 1 := by
        cases l with
        | zero => exact absurd (hl0 rfl) hsl
        | succ l' => exact ⟨l', rfl⟩
      have hcost : cost (l' + 1) = 2 * cost l' + 20 := rfl
      have elev : V.int (((l' + 1 : Nat) : Int) - 1) = V.int (l' : Int) := by
        congr 1
        omega
      refine ⟨.ref a, rfl, .int (many : Int), rfl, .int ((l' + 1 : Nat) : Int), rfl, _, 1, rfl, rfl, .int 1, rfl, a, many, l', k + 1, (by show [V.ref a, V.int (many : Int), V.int (((l' + 1 : Nat) : Int) - 1), V.int 1] = _; rw [elev]), by omega, hm1, hm2, hh5, by omega, fun H6 x e1 b6 hh6 he1 ho1 hd1 => ?_⟩
      have b06 := b5.trans b6
      -- times
      refine ⟨.str sw, rfl, rfl, _, rfl, iteD (fun c => ?_) (fun ct => ?_)⟩
      · have c : sw = "times" := V.str.inj c
        subst c
        refine ⟨_, rfl, .ref a, rfl, a, 19, _, rfl, by decide, by decide, hh6, by omega, fun H7 r b7 hh7 r0 r1 => ⟨_, 9, rfl, rfl, x, rfl, (by show 3 ≤ sizeLine; decide), fun p np => ?_⟩⟩
        exact q _ _ (.times (r - 9) e1) ((b06.trans b7).trans (But.new np)) ((hh7.new np).le (by omega)) ⟨p, x, rfl, SqT.of upd_same, (he1.but b7 hh6).new np⟩ ⟨⟨by omega, by omega⟩, ho1⟩ (by show e1.dep + 1 ≤ _; omega)
      -- by
      refine ⟨.str sw, rfl, rfl, _, rfl, iteD (fun c => ?_) (fun cb => ?_)⟩
      · have c : sw = "by" := V.str.inj c
        subst c
        refine ⟨_, rfl, .ref a, rfl, a, 4, _, rfl, by decide, by decide, hh6, by omega, fun H7 r b7 hh7 r0 r1 => ⟨x, rfl, (by show 3 ≤ sizeLine; decide), fun p np => ?_⟩⟩
        refine q _ _ (.by r.toNat e1) ((b06.trans b7).trans (But.new np)) ((hh7.new np).le (by omega)) ⟨p, x, rfl, ?_, (he1.but b7 hh6).new np⟩ ⟨by omega, ho1⟩ (by show e1.dep + 1 ≤ _; omega)
        rw [Int.toNat_of_nonneg r0]
        exact SqT.of upd_same
      -- the other part
      refine ⟨.ref a, rfl, .int (many : Int), rfl, .int ((l' + 1 : Nat) : Int), rfl, _, 1, rfl, rfl, .int 1, rfl, a, many, l', k + 1 + cost l', (by show [V.ref a, V.int (many : Int), V.int (((l' + 1 : Nat) : Int) - 1), V.int 1] = _; rw [elev]), by omega, hm1, hm2, hh6, by omega, fun H7 y e2 b7 hh7 he2 ho2 hd2 => ?_⟩
      have b07 := b06.trans b7
      have he1 := he1.but b7 hh6
      -- when
      refine ⟨.str sw, rfl, rfl, _, rfl, iteD (fun c => ?_) (fun cw => ?_)⟩
      · have c : sw = "when" := V.str.inj c
        subst c
        refine ⟨_, rfl, .ref a, rfl, a, 4, _, rfl, by decide, by decide, hh7, by omega, fun H8 r b8 hh8 r0 r1 => ⟨.ref a, rfl, a, _, rfl, hh8, by omega, fun H9 cc b9 hh9 c0 c1 => ⟨x, rfl, y, rfl, (by show 5 ≤ sizeLine; decide), fun p np => ?_⟩⟩⟩
        refine q _ _ (.when r.toNat cc e1 e2) (((b07.trans b8).trans b9).trans (But.new np)) ((hh9.new np).le (by omega)) ⟨p, x, y, rfl, ?_, ((he1.but b8 hh7).but b9 hh8).new np, ((he2.but b8 hh7).but b9 hh8).new np⟩ ⟨by omega, ⟨c0, c1⟩, ho1, ho2⟩ (by show max e1.dep e2.dep + 1 ≤ _; omega)
        rw [Int.toNat_of_nonneg r0]
        exact SqT.of upd_same
      -- where
      refine ⟨.str sw, rfl, rfl, _, rfl, iteD (fun c => ?_) (fun cr => ?_)⟩
      · have c : sw = "where" := V.str.inj c
        subst c
        refine ⟨.ref a, rfl, .ref a, rfl, a, 1000, _, rfl, by decide, by decide, hh7, by omega, fun H8 r b8 hh8 r0 r1 => ⟨1, _, rfl, rfl, (by show 6 ≤ sizeLine; decide), fun p5 n5 => ?_⟩⟩
        have hh9 := hh8.new (o := .lst [.int 1, .int 250, .int 333, .int 500, .int 1000, .int (1 + r)]) n5
        refine ⟨a, p5, _, _, rfl, (hh8.ne n5).symm, upd_same, (by show 0 < 6; decide), (by show 6 ≤ 1000; decide), hh9, by omega, fun H10 v b10 hh10 hv => ?_⟩
        have key : ∃ cc : Int, v = .int cc ∧ 1 ≤ cc ∧ cc ≤ 1000 := by
          have hv : v ∈ ([.int 1, .int 250, .int 333, .int 500, .int 1000, .int (1 + r)] : List V) := hv
          simp only [List.mem_cons, List.not_mem_nil, or_false] at hv
          rcases hv with rfl | rfl | rfl | rfl | rfl | rfl
          all_goals exact ⟨_, rfl, by omega, by omega⟩
        obtain ⟨cc, rfl, c0, c1⟩ := key
        refine ⟨_, rfl, .ref a, rfl, .int (many : Int), rfl, a, many, _, rfl, by omega, by omega, hh10, by omega, fun H11 j b11 hh11 j0 j1 => ⟨_, rfl, x, rfl, y, rfl, (by show 5 ≤ sizeLine; decide), fun p np => ?_⟩⟩
        refine q _ _ (.whr j.toNat cc e1 e2) (((((b07.trans b8).trans (But.new n5)).trans b10).trans b11).trans (But.new np)) ((hh11.new np).le (by omega)) ⟨p, x, y, rfl, ?_, ((((he1.but b8 hh7).new n5).but b10 hh9).but b11 hh10).new np, ((((he2.but b8 hh7).new n5).but b10 hh9).but b11 hh10).new np⟩ ⟨by omega, ⟨c0, c1⟩, ho1, ho2⟩ (by show max e1.dep e2.dep + 1 ≤ _; omega)
        rw [Int.toNat_of_nonneg j0]
        exact SqT.of upd_same
      -- the others
      refine ⟨_, rfl, x, rfl, y, rfl, (by show 3 ≤ sizeLine; decide), fun p np => ?_⟩
      have key : ∃ o : W4, sw = wn o := by
        rcases hw with rfl | rfl | rfl | rfl | rfl | rfl | rfl | rfl | rfl
        · exact ⟨.sum, rfl⟩
        · exact ⟨.less, rfl⟩
        · exact ⟨.least, rfl⟩
        · exact ⟨.most, rfl⟩
        · exact absurd rfl ct
        · exact absurd rfl cb
        · exact absurd rfl cw
        · exact absurd rfl hsl
        · exact absurd rfl cr
      obtain ⟨o, rfl⟩ := key
      exact q _ _ (.two o e1 e2) (b07.trans (But.new np)) ((hh7.new np).le (by omega)) ⟨p, x, y, rfl, SqT.of upd_same, he1.new np, he2.new np⟩ ⟨ho1, ho2⟩ (by show max e1.dep e2.dep + 1 ≤ _; omega)
end
end NG

namespace NG
open PySem PySem.Spec PyProof.Rows L2
section
variable {P : Program} {w : World} {K : PySem.W.Frag} {mg : Str → Option Value} {base : Heap}
theorem ok_low {f : Addr} {fd : FuncData} (F : Fun K "_law_lowest" "_law_lowest" s_L_lowest f fd) (gF : mg "_law_lowest" = some (.ref f)) (b : Binds K fd ["_law_row"] []) (B : Bl mg) : Cal P w K mg base 1 "_law_lowest" (spLow K) := by
  refine ⟨f, fd, _, F.ok sc_L_lowest (fun vs H Q E h => ?_) (fun cdv A outer s H vs Q E hr h => ?_), gF, F.kp, b⟩
  · obtain ⟨_, _, _, rfl, _⟩ := h
    rfl
  · obtain ⟨p, ns, y, rfl, hp, hb, hl, hy, py, q⟩ := h
    refine ⟨_, (pss_cons (ps_set (i := 1) sc_L_lowest.nd rfl (.inr rfl) pe_int) (pss_cons (ps_for PassesOwn.never rfl (pi_list (pv 0)) (pg_name (i := 2) sc_L_lowest.nd rfl (.inl rfl)) (pss_one (ps_while PassesOwn.never (pt_cmpR op_ne (pv 2) pe_int (nomark _)) (pss_one (ps_asg (pe_tup (pa_cons (pv 2) (pa_cons (pe_op op_mod (pv 1) (pv 2)) pa_nil))) (pg_tup rfl (pgs_cons (pg_name (i := 1) sc_L_lowest.nd rfl (.inr rfl)) (pgs_cons (pg_name (i := 2) sc_L_lowest.nd rfl (.inl rfl)) pgs_nil)))))))) (pss_one (ps_ret (pe_tupleOf (by rfl) B.tuple (pe_lc (own := [("_law_number", 2)]) rfl sc_L_lowest.nd (pi_list (pv 0)) (blkOk_by (N := N_L_lowest) (sc := defScope s_L_lowest) (by decide +kernel)) (fun _ _ _ _ _ => pg_name (i := 2) sc_L_lowest.nd rfl (.inl rfl)) (fun _ _ _ _ _ => pts_nil) (fun _ _ _ _ _ => pe_op op_fdivW (pv 2) (pv 1)))))))), ?_⟩
    refine ⟨.ref p, rfl, p, rfl, ⟨_, SqL.of hp⟩, for_list (xs := ns.map V.int) (fun i σ H' => ∃ y2, σ = [some (.ref p), some (.int (gl (ns.take i) : Int)), y2] ∧ Same H H') ⟨none, rfl, Same.refl _⟩ ?_ ?_ ?_⟩
    · rintro i σ H' hi ⟨y2, rfl, sm⟩
      exact SqL.of (sm _ _ hp)
    · rintro i x σ H' hx ⟨y2, rfl, sm⟩
      rw [List.getElem?_map] at hx
      cases hn : ns[i]? with
      | none => rw [hn] at hx; cases hx
      | some z =>
        rw [hn] at hx
        have ex : V.int z = x := Option.some.inj hx
        subst ex
        have hz := hb z (List.mem_of_getElem? hn)
        refine ⟨fun m σ H' => ∃ u : Nat, σ = [some (.ref p), some (.int (u : Int)), some (.int (m : Int))] ∧ Nat.gcd u m = gl (ns.take (i + 1)) ∧ Same H H', ⟨z.toNat, gl (ns.take i), ?_, (gl_step hn).symm, sm⟩, ?_⟩
        · show [some (.ref p), some (.int _), some (.int z)] = [some (V.ref p), _, _]
          rw [Int.toNat_of_nonneg hz.1]
        · rintro m σ H' ⟨u, rfl, hg, sm⟩
          refine ⟨.int (m : Int), rfl, rfl, _, rfl, ?_⟩
          by_cases h0 : m = 0
          · subst h0
            refine iteFF rfl ?_
            rw [Nat.gcd_zero_right] at hg
            rw [hg]
            exact ⟨_, rfl, sm⟩
          · have hne : ¬ V.int (m : Int) = V.int 0 := fun z => h0 (by have := V.int.inj z; omega)
            refine iteTT (by rw [decide_eq_false hne]; rfl) ?_
            refine ⟨fun σ' H' => ∃ u : Nat, σ' = [some (.ref p), some (.int (m : Int)), some (.int ((u % m : Nat) : Int))] ∧ Nat.gcd u m = gl (ns.take (i + 1)) ∧ Same H H', ?_, ?_⟩
            · rintro σ' H' ⟨u, rfl, hg, sm⟩
              exact ⟨u % m, Nat.mod_lt _ (by omega), m, rfl, by rw [gcd_turn]; exact hg, sm⟩
            · refine ⟨.int (m : Int), rfl, .int (u : Int), rfl, .int (m : Int), rfl, u, m, rfl, rfl, (by show (0 : Int) < m; omega), (by show 2 ≤ sizeLine; decide), fun t nt => ?_⟩
              exact ⟨t, _, rfl, SqT.of upd_same, rfl, _, _, rfl, _, _, rfl, rfl, u, rfl, hg, sm.trans (same_new nt)⟩
    · rintro σ H1 ⟨y2, rfl, sm⟩
      rw [List.length_map, List.take_length]
      have hg := gl_pos hy py
      refine ⟨.ref p, rfl, p, rfl, ⟨_, SqL.of (sm _ _ hp)⟩, fun D nD => lc_list (xs := ns.map V.int) (fun i H' => Same H H' ∧ H' D = some (.lst (((ns.take i).map fun x => x / (gl ns : Int)).map V.int))) ⟨sm.trans (same_new nD), upd_same⟩ (fun i H' _ h => SqL.of (h.1 _ _ hp)) ?_ ?_⟩
      · rintro i x H' hx ⟨sm', hD⟩
        rw [List.getElem?_map] at hx
        cases hn : ns[i]? with
        | none => rw [hn] at hx; cases hx
        | some z =>
          rw [hn] at hx
          have ex : V.int z = x := Option.some.inj hx
          subst ex
          have hgs : gl ns ≤ z.toNat ∨ z = 0 := by
            have hz := hb z (List.mem_of_getElem? hn)
            by_cases h0 : z = 0
            · exact .inr h0
            · exact .inl (Nat.le_of_dvd (by omega) (gl_dvd (List.mem_of_getElem? hn)))
          have hgy : gl ns ≤ y.toNat := Nat.le_of_dvd (by omega) (gl_dvd hy)
          have hyb := hb y hy
          refine ⟨rfl, tYes_in ?_⟩
          refine ⟨.int z, rfl, .int (gl ns : Int), rfl, z, (gl ns : Int), rfl, rfl, wide_div (b := 100) (by omega) (by omega) (by decide) (by decide), _, hD, ?_, ?_, ?_⟩
          · rw [List.length_map, List.length_map, List.length_take]
            exact small1000 (by omega)
          · exact fun b' o e => by
              rw [upd_ne (ne_of_none (sm _ _ e) nD)]
              exact sm' _ _ e
          · rw [upd_same, List.take_add_one, hn, List.map_append, List.map_append]
            rfl
      · rintro H' ⟨sm', hD⟩
        rw [List.length_map, List.take_length] at hD
        refine .inl ⟨D, _, rfl, SqL.of hD, fun t nt => ?_⟩
        obtain ⟨k1, k2, k3⟩ := low_sh hb hl hy py
        exact q _ _ (low ns) (sm'.trans (same_new nt)) ⟨t, rfl, SqT.of upd_same, by unfold low; rw [List.length_map], k1, k2, k3⟩
theorem ok_shares {f : Addr} {fd : FuncData} (F : Fun K "_law_shares" "_law_shares" s_L_shares f fd) (gF : mg "_law_shares" = some (.ref f)) (b : Binds K fd ["_law_hand_here", "_law_many"] []) (B : Bl mg) (c_L_take : Cal P w K mg base 1 "_law_take" spTake) (c_L_of : Cal P w K mg base 2 "_law_of" (spOf K)) (c_L_lowest : Cal P w K mg base 1 "_law_lowest" (spLow K)) : Cal P w K mg base 3 "_law_shares" (spShares K) := by
  refine ⟨f, fd, _, F.ok sc_L_shares (fun vs H Q E h => ?_) (fun cdv A outer s H vs Q E hr h => ?_), gF, F.kp, b⟩
  · obtain ⟨_, _, _, rfl, _⟩ := h
    rfl
  · obtain ⟨a, many, n, rfl, hm1, hm2, hh, hn, q⟩ := h
    refine ⟨_, (pss_cons (ps_set (i := 2) sc_L_shares.nd rfl (.inl rfl) (pe_lst pa_nil)) (pss_cons (ps_for PassesOwn.never rfl (pi_range1 rfl B.range (pa_cons (pv 1) pa_nil)) (pg_name (i := 3) sc_L_shares.nd rfl (.inl rfl)) (pss_cons (ps_set (i := 4) sc_L_shares.nd rfl (.inl rfl) (pe_lst (pa_cons pe_int (pa_cons pe_int (pa_cons pe_int (pa_cons pe_int (pa_cons (pe_c c_L_take hr (by omega) (by rfl) (pa_cons (pv 0) (pa_cons pe_int pa_nil))) (pa_cons (pe_c c_L_take hr (by omega) (by rfl) (pa_cons (pv 0) (pa_cons pe_int pa_nil))) (pa_cons (pe_op op_add (pe_op op_pow pe_int pe_int) (pe_c c_L_take hr (by omega) (by rfl) (pa_cons (pv 0) (pa_cons pe_int pa_nil)))) pa_nil))))))))) (pss_one (ps_expr (pe_bm PySem.F.plainAttrs_list PySem.F.slot_list_append PySem.F.type_list_append mt_append (pv 2) (pa_cons (pe_c c_L_of hr (by omega) (by rfl) (pa_cons (pv 0) (pa_cons (pv 4) pa_nil))) pa_nil)))))) (C8.pss_cut (ps_if (pt_cmpR op_eq (pe_callB (cr_max rfl) (by rfl) B.max (by decide +kernel) (pa_cons (pv 2) pa_nil)) pe_int (nomark _)) (pss_one (ps_asg pe_int (pg_sub (pv 2) (pe_c c_L_take hr (by omega) (by rfl) (pa_cons (pv 0) (pa_cons (pv 1) pa_nil))) set_list))) pss_nil) (pss_one (ps_ret (pe_c c_L_lowest hr (by omega) (by rfl) (pa_cons (pv 2) pa_nil))))))), ?_⟩
    refine ⟨(by show 0 ≤ sizeLine; decide), fun l nl => ?_⟩
    have hla := hh.ne nl
    refine ⟨.int (many : Int), rfl, _, rfl, by omega, by omega, ?_⟩
    refine for_range (n := ((many : Int)).toNat) (fun i σ H' => ∃ y3 y4, ∃ ns : List Int, σ = [some (.ref a), some (.int (many : Int)), some (.ref l), y3, y4] ∧ But a H H' ∧ HandAt H' a (n + 4 * i) ∧ H' l = some (.lst (ns.map V.int)) ∧ ns.length = i ∧ ∀ x ∈ ns, 0 ≤ x ∧ x < 2 ^ 50) ⟨none, none, [], rfl, But.new nl, hh.new nl, upd_same, rfl, fun x h => by cases h⟩ ?_ ?_
    · rintro i σ H1 hi ⟨y3, y4, ns, rfl, b1, hh1, hl1, hlen, hb⟩
      have hi3 : i < 3 := by omega
      refine ⟨.ref a, rfl, a, 12, _, rfl, by decide, by decide, hh1, by omega, fun H2 r2 b2 hh2 r20 r21 => ?_⟩
      refine ⟨.ref a, rfl, a, 1001, _, rfl, by decide, by decide, hh2, by omega, fun H3 r3 b3 hh3 r30 r31 => ?_⟩
      refine ⟨10, 12, rfl, rfl, ⟨by decide, by decide, by decide⟩, .ref a, rfl, a, 9, _, rfl, by decide, by decide, hh3, by omega, fun H4 r4 b4 hh4 r40 r41 => ⟨_, _, rfl, rfl, (by show 7 ≤ sizeLine; decide), fun p np => ?_⟩⟩
      have hpa := hh4.ne np
      have e4 : H4 l = some (.lst (ns.map V.int)) := b4 _ _ hla (b3 _ _ hla (b2 _ _ hla hl1))
      have hpl : l ≠ p := ne_of_none e4 np
      have e5 : (upd H4 p (.lst [.int 0, .int 1, .int 1, .int 2, .int r2, .int r3, .int (10 ^ (12 : Int).toNat + r4)])) l = some (.lst (ns.map V.int)) := (upd_ne hpl).trans e4
      refine ⟨.ref l, rfl, .inl ⟨rfl, _, SqL.of e5⟩, .ref a, rfl, .ref p, rfl, a, p, _, _, rfl, hpa.symm, upd_same, (by show 0 < 7; decide), (by show 7 ≤ 1000; decide), hh4.new np, by omega, fun H6 v b6 hh6 hv => ?_⟩
      have key : ∃ c : Int, v = .int c ∧ 0 ≤ c ∧ c < 2 ^ 50 := by
        have hv : v ∈ ([.int 0, .int 1, .int 1, .int 2, .int r2, .int r3, .int (10 ^ 12 + r4)] : List V) := hv
        simp only [List.mem_cons, List.not_mem_nil, or_false] at hv
        rcases hv with rfl | rfl | rfl | rfl | rfl | rfl | rfl
        all_goals exact ⟨_, rfl, by omega, by omega⟩
      obtain ⟨c, rfl, c0, c1⟩ := key
      have e6 : H6 l = some (.lst (ns.map V.int)) := b6 _ _ hla e5
      refine ⟨l, _, _, rfl, rfl, e6, ?_, ?_⟩
      · rw [List.length_map]
        exact small1000 (by omega)
      · have bb : But a H H6 := ((((b1.trans b2).trans b3).trans b4).trans (But.new np)).trans b6
        refine ⟨_, _, ns ++ [c], rfl, fun b' o nb e => ?_, (hh6.put hla).le (by omega), ?_, ?_, ?_⟩
        · rw [upd_ne (ne_of_none e nl)]
          exact bb _ _ nb e
        · rw [upd_same, List.map_append]
          rfl
        · rw [List.length_append, hlen]
          rfl
        · intro x hx
          rcases List.mem_append.mp hx with hx | hx
          · exact hb x hx
          · rw [List.mem_singleton.mp hx]
            exact ⟨c0, c1⟩
    · rintro σ H1 ⟨y3, y4, ns, rfl, b1, hh1, hl1, hlen, hb⟩
      have hlen : ns.length = many := by omega
      have hh1 : HandAt H1 a (n + 12) := hh1.le (by omega)
      refine ⟨fun σ H' => ∃ y3 y4, ∃ ns : List Int, ∃ y : Int, σ = [some (.ref a), some (.int (many : Int)), some (.ref l), y3, y4] ∧ But a H H' ∧ HandAt H' a (n + 13) ∧ H' l = some (.lst (ns.map V.int)) ∧ ns.length = many ∧ (∀ x ∈ ns, 0 ≤ x ∧ x < 2 ^ 50) ∧ y ∈ ns ∧ 0 < y, ?_, ?_⟩
      · refine ⟨.ref l, rfl, l, ns, rfl, SqL.of hl1, by omega, fun m hm hmax => ⟨rfl, _, rfl, iteD (fun c => ?_) (fun c => ?_)⟩⟩
        · refine ⟨.ref l, rfl, .ref a, rfl, .int (many : Int), rfl, a, _, _, rfl, by omega, by omega, hh1, by omega, fun H2 r b2 hh2 r0 r1 => ?_⟩
          have e2 := b2 _ _ hla hl1
          refine ⟨l, _, r, _, rfl, rfl, e2, ixN_of r0 (by rw [List.length_map]; omega), ?_⟩
          have hj : r.toNat < ns.length := by omega
          refine ⟨_, _, ns.set r.toNat 1, 1, rfl, fun b' o nb e => ?_, hh2.put hla, ?_, ?_, fun x hx => ?_, ?_, by decide⟩
          · rw [upd_ne (ne_of_none e nl)]
            exact b2 _ _ nb (b1 _ _ nb e)
          · rw [upd_same, List.map_set]
          · rw [List.length_set]
            exact hlen
          · rcases List.mem_or_eq_of_mem_set hx with hx | rfl
            · exact hb x hx
            · exact ⟨by decide, by decide⟩
          · exact List.mem_iff_getElem.mpr ⟨r.toNat, by rw [List.length_set]; exact hj, List.getElem_set_self _⟩
        · have hm0 : m ≠ 0 := fun z => c (by rw [z])
          exact ⟨_, _, ns, m, rfl, b1, hh1.le (by omega), hl1, hlen, hb, hm, by have := hb m hm; omega⟩
      · rintro σ H2 ⟨y3, y4, ns, y, rfl, b2, hh2, hl2, hlen, hb, hy, py⟩
        refine ⟨.ref l, rfl, l, ns, y, rfl, hl2, hb, by omega, hy, py, fun H3 v ms sm hv => ?_⟩
        rw [hlen] at hv
        obtain ⟨g, sd, m, e, z1, z2, z3, z4⟩ := hh2
        exact q _ _ ms (b2.trans (But.of sm)) ⟨g, sd, m, sm _ _ e, z1, z2, z3, by omega⟩ hv
theorem ok_regs {f : Addr} {fd : FuncData} (F : Fun K "_law_registers" "_law_registers" s_L_registers f fd) (gF : mg "_law_registers" = some (.ref f)) (b : Binds K fd ["_law_hand_here"] []) (B : Bl mg) (c_L_figure : Cal P w K mg base 3 "_law_figure" spFigure) : Cal P w K mg base 4 "_law_registers" (spRegs K) := by
  refine ⟨f, fd, _, F.ok sc_L_registers (fun vs H Q E h => ?_) (fun cdv A outer s H vs Q E hr h => ?_), gF, F.kp, b⟩
  · obtain ⟨_, _, rfl, _⟩ := h
    rfl
  · obtain ⟨a, n, rfl, hh, hn, q⟩ := h
    refine ⟨_, (pss_one (ps_ret (pe_tupleOf (by rfl) B.tuple (pe_lc (own := [("_law_turn", 1)]) rfl sc_L_registers.nd (pi_range1 rfl B.range (pa_cons pe_int pa_nil)) (blkOk_by (N := N_L_registers) (sc := defScope s_L_registers) (by decide +kernel)) (fun _ _ _ _ _ => pg_name (i := 1) sc_L_registers.nd rfl (.inl rfl)) (fun _ _ _ _ _ => pts_nil) (fun _ _ _ _ _ => pe_c c_L_figure hr (by omega) (by rfl) (pa_cons (pv 0) pa_nil)))))), ?_⟩
    refine ⟨4, rfl, by decide, by decide, fun D nD => lc_range (n := (4 : Int).toNat) (fun i H' => ∃ rs : List Int, But a H H' ∧ HandAt H' a (n + 3 * i) ∧ H' D = some (.lst (rs.map V.int)) ∧ rs.length = i ∧ ∀ x ∈ rs, -1000 ≤ x ∧ x ≤ 1000) ⟨[], But.new nD, hh.new nD, upd_same, rfl, fun x h => by cases h⟩ ?_ ?_⟩
    · rintro i H1 hi ⟨rs, b1, hh1, hD, hlen, hb⟩
      have hi4 : i < 4 := hi
      have hDa := hh.ne nD
      refine ⟨rfl, tYes_in ?_⟩
      refine ⟨.ref a, rfl, a, _, rfl, hh1, by omega, fun H2 c b2 hh2 c0 c1 => ⟨_, b2 _ _ hDa hD, ?_, ?_⟩⟩
      · rw [List.length_map]
        exact small1000 (by omega)
      · refine ⟨rs ++ [c], fun b' o nb e => ?_, (hh2.put hDa).le (by omega), ?_, ?_, ?_⟩
        · rw [upd_ne (ne_of_none e nD)]
          exact b2 _ _ nb (b1 _ _ nb e)
        · rw [upd_same, List.map_append]
          rfl
        · rw [List.length_append, hlen]
          rfl
        · intro x hx
          rcases List.mem_append.mp hx with hx | hx
          · exact hb x hx
          · rw [List.mem_singleton.mp hx]
            exact ⟨c0, c1⟩
    · rintro H1 ⟨rs, b1, hh1, hD, hlen, hb⟩
      refine .inl ⟨D, _, rfl, SqL.of hD, fun t nt => ?_⟩
      exact q _ _ rs (b1.trans (But.new nt)) (hh1.new nt) ⟨t, rfl, SqT.of upd_same, hlen, hb⟩
end
end NG

namespace NG
open PySem PySem.Spec PyProof.Rows L2
section
variable {P : Program} {w : World} {K : PySem.W.Frag} {mg : Str → Option Value} {base : Heap}
theorem ok_put {f : Addr} {fd : FuncData} (F : Fun K "_law_put" "_law_put" s_L_put f fd) (gF : mg "_law_put" = some (.ref f)) (b : Binds K fd ["_law_around_here", "_law_expression_here"] []) (B : Bl mg) : Cal P w K mg base 1 "_law_put" (spPut K) := by
  refine ⟨f, fd, _, F.ok sc_L_put (fun vs H Q E h => ?_) (fun cdv A outer s H vs Q E hr h => ?_), gF, F.kp, b⟩
  · obtain ⟨_, _, _, _, _, rfl, _⟩ := h
    rfl
  · obtain ⟨p, v, xs, cs, e, rfl, hp, hcs, he, q⟩ := h
    refine ⟨_, (pss_cons (ps_for PassesOwn.never rfl (pi_list (pv 0)) (pg_tup rfl (pgs_cons (pg_name (i := 2) sc_L_put.nd rfl (.inl rfl)) (pgs_cons (pg_name (i := 3) sc_L_put.nd rfl (.inl rfl)) pgs_nil))) (pss_one (ps_set (i := 1) sc_L_put.nd rfl (.inl rfl) (pe_op op_catT (pe_op op_catT (pv 2) (pe_tup (pa_cons (pv 1) pa_nil))) (pv 3))))) (pss_one (ps_ret (pv 1)))), ?_⟩
    refine ⟨.ref p, rfl, p, rfl, ⟨_, SqL.of hp⟩, for_list (xs := xs) (fun i σ H' => ∃ u y2 y3, σ = [some (.ref p), some u, y2, y3] ∧ Same H H' ∧ ExAt K H' (putAll (cs.take i) e) u) ⟨v, none, none, rfl, Same.refl _, he⟩ ?_ ?_ ?_⟩
    · rintro i σ H' hi ⟨u, y2, y3, rfl, sm, _⟩
      exact SqL.of (sm _ _ hp)
    · rintro i x σ H1 hx ⟨u, y2, y3, rfl, sm, hu⟩
      obtain ⟨c, hc, hcx⟩ := hcs.get' hx
      obtain ⟨px, pa, pr, lu, rfl, q1, q2, q3, lf⟩ := hcx.imp fun _ _ q => same_sqt sm q
      refine ⟨px, _, rfl, q1, rfl, _, _, rfl, _, _, rfl, rfl, ?_⟩
      have hne : (c.lay lu).1 ≠ [] := by cases c <;> simp [Cx1.lay]
      have hlen : (c.lay lu).1.length ≤ 4 ∧ (c.lay lu).2.length ≤ 1 := by cases c <;> simp [Cx1.lay]
      refine ⟨.ref pa, rfl, u, rfl, (by show 1 ≤ sizeLine; decide), fun p1 n1 => ?_⟩
      refine ⟨pa, p1, _, [u], rfl, rfl, same_sqt (same_new n1) q2, SqT.of upd_same, hne, ?_, fun z => (by cases z), fun _ p2 n2 => ?_⟩
      · have : ((c.lay lu).1.length + [u].length) ≤ 1000 := by rw [List.length_singleton]; omega
        exact Nat.le_of_lt (small1000 this)
      have sm2 := (same_new (o := .tup [u]) n1).trans (same_new (o := .tup ((c.lay lu).1 ++ [u])) n2)
      have hp2 : (upd (upd H1 p1 (.tup [u])) p2 (.tup ((c.lay lu).1 ++ [u]))) p2 = some (.tup ((c.lay lu).1 ++ [u])) := upd_same
      revert sm2 hp2
      generalize (upd (upd H1 p1 (.tup [u])) p2 (.tup ((c.lay lu).1 ++ [u]))) = H2
      intro sm2 hp2
      have fin : ∀ (H3 : Hp) (p3 : Addr), Same H2 H3 → SqT K H3 p3 ((c.lay lu).1 ++ [u] ++ (c.lay lu).2) → ExAt K H3 (putAll (cs.take (i + 1)) e) (.ref p3) := fun H3 p3 sm3 h3 => by
        rw [List.take_add_one, hc]
        show ExAt K H3 (List.foldl (fun e c => Cx1.put c e) e (cs.take i ++ [c])) (.ref p3)
        rw [List.foldl_append]
        refine put_at (c := c) (u := lu) h3 ?_ (hu.same (sm2.trans sm3))
        have h := fun p xs (q : SqT K H1 p xs) => same_sqt (sm2.trans sm3) q
        cases c with
        | l w x => exact ExAt.imp h lf
        | r w x => exact ExAt.imp h lf
        | times f => trivial
        | «by» i => trivial
        | whenL i c x => exact ExAt.imp h lf
        | whenR i c x => exact ExAt.imp h lf
        | whrL i c x => exact ExAt.imp h lf
        | whrR i c x => exact ExAt.imp h lf
      refine ⟨.ref pr, rfl, p2, pr, _, _, rfl, rfl, SqT.of hp2, same_sqt sm2 q3, (by simp), ?_, fun z => ?_, fun z p3 n3 => ?_⟩
      · have : ((c.lay lu).1 ++ [u]).length + (c.lay lu).2.length ≤ 1000 := by rw [List.length_append, List.length_singleton]; omega
        exact Nat.le_of_lt (small1000 this)
      · refine ⟨_, _, _, rfl, sm.trans sm2, fin _ _ (Same.refl _) ?_⟩
        rw [z, List.append_nil]
        exact SqT.of hp2
      · exact ⟨_, _, _, rfl, sm.trans (sm2.trans (same_new n3)), fin _ _ (same_new n3) (SqT.of upd_same)⟩
    · rintro σ H1 ⟨u, y2, y3, rfl, sm, hu⟩
      rw [hcs.len, List.take_length] at hu
      exact ⟨u, rfl, q _ _ sm hu⟩
theorem ok_fac {f : Addr} {fd : FuncData} (F : Fun K "_law_factor" "_law_factor" s_L_factor f fd) (gF : mg "_law_factor" = some (.ref f)) (b : Binds K fd ["_law_around_here", "_law_registers_here"] []) (B : Bl mg) (many : Nat) : Cal P w K mg base 1 "_law_factor" (spFac K many) := by
  refine ⟨f, fd, _, F.ok sc_L_factor (fun vs H Q E h => ?_) (fun cdv A outer s H vs Q E hr h => ?_), gF, F.kp, b⟩
  · obtain ⟨_, _, _, _, _, rfl, _⟩ := h
    rfl
  · obtain ⟨p, _, xs, cs, rs, rfl, hp, hcs, hok, ⟨r, rfl, hr1, hr2, hr3⟩, q⟩ := h
    refine ⟨_, (pss_cons (ps_set (i := 2) sc_L_factor.nd rfl (.inl rfl) pe_int) (pss_cons (ps_for PassesOwn.never rfl (pi_list (pv 0)) (pg_tup rfl (pgs_cons (pg_name (i := 3) sc_L_factor.nd rfl (.inl rfl)) (pgs_cons (pg_name (i := 4) sc_L_factor.nd rfl (.inl rfl)) pgs_nil))) (C8.pss_cut (ps_if (pt_cmpR op_eq (pe_ix ix_tup (pv 3) pe_int (fun _ _ => rfl)) pe_str (nomark _)) (pss_one (ps_set (i := 2) sc_L_factor.nd rfl (.inl rfl) (pe_op op_mul (pv 2) (pe_ix ix_tup (pv 3) pe_int (fun _ _ => rfl))))) pss_nil) (C8.pss_cut (ps_if (pt_cmpR op_eq (pe_ix ix_tup (pv 3) pe_int (fun _ _ => rfl)) pe_str (nomark _)) (pss_one (ps_set (i := 2) sc_L_factor.nd rfl (.inl rfl) (pe_op op_mul (pv 2) (pe_ix ix_tup (pv 1) (pe_ix ix_tup (pv 3) pe_int (fun _ _ => rfl)) (fun _ _ => rfl))))) pss_nil) (pss_one (ps_if (PW.pt (pw_and (pt_cmpR op_eq (pe_ix ix_tup (pv 3) pe_int (fun _ _ => rfl)) pe_str (nomark _)) (pw_and1 (pt_cmpR op_eq (pe_callB call_len_seq (by rfl) B.len PySem.boot_len (pa_cons (pv 3) pa_nil)) pe_int (nomark _))))) (pss_one (ps_set (i := 2) sc_L_factor.nd rfl (.inl rfl) (pe_op op_sub pe_int (pv 2)))) pss_nil))))) (pss_one (ps_ret (pv 2))))), ?_⟩
    refine ⟨.ref p, rfl, p, rfl, ⟨_, SqL.of hp⟩, for_list (xs := xs) (fun i σ H' => ∃ y3 y4, σ = [some (.ref p), some (.ref r), some (.int ((cs.take i).foldl (fac1 rs) 1)), y3, y4] ∧ H' = H) ⟨none, none, rfl, rfl⟩ ?_ ?_ ?_⟩
    · rintro i σ H' hi ⟨y3, y4, rfl, rfl⟩
      exact SqL.of hp
    · rintro i x σ H1 hx ⟨y3, y4, rfl, rfl⟩
      obtain ⟨c, hc, px, pa, pr, lu, rfl, q1, q2, q3, lf⟩ := hcs.get' hx
      have oc := hok c (List.mem_of_getElem? hc)
      refine ⟨px, _, rfl, q1, rfl, _, _, rfl, _, _, rfl, rfl, ?_⟩
      have stp : (cs.take (i + 1)).foldl (fac1 rs) 1 = fac1 rs ((cs.take i).foldl (fac1 rs) 1) c := by
        rw [List.take_add_one, hc, List.foldl_append]
        rfl
      generalize (cs.take i).foldl (fac1 rs) 1 = F0 at stp ⊢
      have kinds : (∃ f, c = .times f) ∨ (∃ i, c = .by i) ∨ (∃ x, c = .r .less x) ∨ (fac1 rs F0 c = F0 ∧ ∃ wd rest, (c.lay lu).1 = .str wd :: rest ∧ decide (V.str wd = V.str "times") = false ∧ decide (V.str wd = V.str "by") = false ∧ (decide (V.str wd = V.str "less") = false ∨ rest = [])) := by
        cases c with
        | l w x => exact .inr (.inr (.inr ⟨rfl, _, _, rfl, wn_ne (by simp), wn_ne (by simp), .inr rfl⟩))
        | r w x =>
          cases w with
          | less => exact .inr (.inr (.inl ⟨x, rfl⟩))
          | sum => exact .inr (.inr (.inr ⟨rfl, _, _, rfl, rfl, rfl, .inl rfl⟩))
          | least => exact .inr (.inr (.inr ⟨rfl, _, _, rfl, rfl, rfl, .inl rfl⟩))
          | most => exact .inr (.inr (.inr ⟨rfl, _, _, rfl, rfl, rfl, .inl rfl⟩))
        | times f => exact .inl ⟨f, rfl⟩
        | «by» i => exact .inr (.inl ⟨i, rfl⟩)
        | whenL i c x => exact .inr (.inr (.inr ⟨rfl, _, _, rfl, rfl, rfl, .inl rfl⟩))
        | whenR i c x => exact .inr (.inr (.inr ⟨rfl, _, _, rfl, rfl, rfl, .inl rfl⟩))
        | whrL i c x => exact .inr (.inr (.inr ⟨rfl, _, _, rfl, rfl, rfl, .inl rfl⟩))
        | whrR i c x => exact .inr (.inr (.inr ⟨rfl, _, _, rfl, rfl, rfl, .inl rfl⟩))
      rcases kinds with ⟨fa, rfl⟩ | ⟨gi, rfl⟩ | ⟨x, rfl⟩ | ⟨hF, wd, rest, hlay, hT, hB, hL⟩
      · have oc : -9 ≤ fa ∧ fa ≤ 9 := oc
        have q2 : SqT K H1 pa [.str "times", .int fa] := q2
        refine ⟨fun σ H' => σ = [some (.ref p), some (.ref r), some (.int (F0 * fa)), some (.ref pa), some (.ref pr)] ∧ H' = H1, ⟨.ref pa, rfl, pa, _, 0, _, rfl, rfl, q2, rfl, rfl, _, rfl, iteTT rfl ⟨.int F0, rfl, .ref pa, rfl, pa, _, 1, _, rfl, rfl, q2, rfl, F0, fa, rfl, rfl, .inr ⟨by omega, by omega⟩, rfl, rfl⟩⟩, ?_⟩
        rintro σ H' ⟨rfl, rfl⟩
        refine ⟨fun σ H'' => σ = [some (.ref p), some (.ref r), some (.int (F0 * fa)), some (.ref pa), some (.ref pr)] ∧ H'' = H', ⟨.ref pa, rfl, pa, _, 0, _, rfl, rfl, q2, rfl, rfl, _, rfl, iteFF rfl ⟨rfl, rfl⟩⟩, ?_⟩
        rintro σ H' ⟨rfl, rfl⟩
        exact ⟨.ref pa, rfl, pa, _, 0, _, rfl, rfl, q2, rfl, rfl, _, rfl, iteFF rfl (iteFF rfl ⟨_, _, by rw [stp]; rfl, rfl⟩)⟩
      · have oc : gi < 4 := oc
        have q2 : SqT K H1 pa [.str "by", .int (gi : Int)] := q2
        have hg := hr3 _ (getD_mem (ns := rs) (i := gi) (by omega))
        refine ⟨fun σ H' => σ = [some (.ref p), some (.ref r), some (.int F0), some (.ref pa), some (.ref pr)] ∧ H' = H1, ⟨.ref pa, rfl, pa, _, 0, _, rfl, rfl, q2, rfl, rfl, _, rfl, iteFF rfl ⟨rfl, rfl⟩⟩, ?_⟩
        rintro σ H' ⟨rfl, rfl⟩
        refine ⟨fun σ H'' => σ = [some (.ref p), some (.ref r), some (.int (F0 * rs.getD gi 0)), some (.ref pa), some (.ref pr)] ∧ H'' = H', ⟨.ref pa, rfl, pa, _, 0, _, rfl, rfl, q2, rfl, rfl, _, rfl, iteTT rfl ⟨.int F0, rfl, .ref r, rfl, .ref pa, rfl, pa, _, 1, _, rfl, rfl, q2, rfl, r, _, _, _, rfl, rfl, hr1, at_nth (by omega), F0, _, rfl, rfl, .inr ⟨by omega, by omega⟩, rfl, rfl⟩⟩, ?_⟩
        rintro σ H' ⟨rfl, rfl⟩
        exact ⟨.ref pa, rfl, pa, _, 0, _, rfl, rfl, q2, rfl, rfl, _, rfl, iteFF rfl (iteFF rfl ⟨_, _, by rw [stp]; rfl, rfl⟩)⟩
      · have q2 : SqT K H1 pa [.str "less", lu] := q2
        refine ⟨fun σ H' => σ = [some (.ref p), some (.ref r), some (.int F0), some (.ref pa), some (.ref pr)] ∧ H' = H1, ⟨.ref pa, rfl, pa, _, 0, _, rfl, rfl, q2, rfl, rfl, _, rfl, iteFF rfl ⟨rfl, rfl⟩⟩, ?_⟩
        rintro σ H' ⟨rfl, rfl⟩
        refine ⟨fun σ H'' => σ = [some (.ref p), some (.ref r), some (.int F0), some (.ref pa), some (.ref pr)] ∧ H'' = H', ⟨.ref pa, rfl, pa, _, 0, _, rfl, rfl, q2, rfl, rfl, _, rfl, iteFF rfl ⟨rfl, rfl⟩⟩, ?_⟩
        rintro σ H' ⟨rfl, rfl⟩
        exact ⟨.ref pa, rfl, pa, _, 0, _, rfl, rfl, q2, rfl, rfl, _, rfl, iteTT rfl ⟨.ref pa, rfl, pa, _, rfl, .inr q2, rfl, _, rfl, iteTT rfl ⟨.int F0, rfl, _, _, rfl, rfl, _, _, by rw [stp]; rfl, rfl⟩⟩⟩
      · rw [hlay] at q2
        refine ⟨fun σ H' => σ = [some (.ref p), some (.ref r), some (.int F0), some (.ref pa), some (.ref pr)] ∧ H' = H1, ⟨.ref pa, rfl, pa, _, 0, _, rfl, rfl, q2, at_of (j := 0) rfl rfl, rfl, _, rfl, iteFF hT ⟨rfl, rfl⟩⟩, ?_⟩
        rintro σ H' ⟨rfl, rfl⟩
        refine ⟨fun σ H'' => σ = [some (.ref p), some (.ref r), some (.int F0), some (.ref pa), some (.ref pr)] ∧ H'' = H', ⟨.ref pa, rfl, pa, _, 0, _, rfl, rfl, q2, at_of (j := 0) rfl rfl, rfl, _, rfl, iteFF hB ⟨rfl, rfl⟩⟩, ?_⟩
        rintro σ H' ⟨rfl, rfl⟩
        refine ⟨.ref pa, rfl, pa, _, 0, _, rfl, rfl, q2, at_of (j := 0) rfl rfl, rfl, _, rfl, ?_⟩
        rcases hL with hL | rfl
        · exact iteFF hL (iteFF rfl ⟨_, _, by rw [stp, hF], rfl⟩)
        · refine iteD (fun _ => ?_) (fun _ => ?_)
          · exact ⟨.ref pa, rfl, pa, _, rfl, .inr q2, rfl, _, rfl, iteFF rfl ⟨_, _, by rw [stp, hF], rfl⟩⟩
          · exact iteFF rfl ⟨_, _, by rw [stp, hF], rfl⟩
    · rintro σ H1 ⟨y3, y4, rfl, rfl⟩
      rw [hcs.len, List.take_length]
      exact ⟨_, rfl, q⟩
end
end NG

namespace NG
open PySem PySem.Spec PyProof.Rows L2
def CV (K : PySem.W.Frag) (many : Nat) (H : Hp) (v : V) : Prop := ∃ c : Cx1, c.ok many ∧ CtxAt K H c v
theorem CV.but {K : PySem.W.Frag} {many n : Nat} {H H' : Hp} {a : Addr} {v : V} (x : CV K many H v) (b : But a H H') (h : HandAt H a n) : CV K many H' v := by
  obtain ⟨c, o, q⟩ := x
  exact ⟨c, o, q.imp fun _ _ q => b.sq h q⟩
def Mp (K : PySem.W.Frag) (a : Addr) (many k : Nat) (H0 : Hp) (v : V) (H' : Hp) : Prop := But a H0 H' ∧ HandAt H' a k ∧ CV K many H' v
theorem mk_pair {K : PySem.W.Frag} {a pa pr p : Addr} {many k : Nat} {H0 : Hp} {A B : List V} (c : Cx1) (u : V) (hh : HandAt H0 a k) (ok : c.ok many) (lf : c.leaf K H0 u) (e1 : (c.lay u).1 = A) (e2 : (c.lay u).2 = B) (na : H0 pa = none) (nr : (upd H0 pa (.tup A)) pr = none) (np : (upd (upd H0 pa (.tup A)) pr (.tup B)) p = none) :
    Mp K a many k H0 (.ref p) (upd (upd (upd H0 pa (.tup A)) pr (.tup B)) p (.tup [.ref pa, .ref pr])) := by
  have sm : Same H0 (upd (upd (upd H0 pa (.tup A)) pr (.tup B)) p (.tup [.ref pa, .ref pr])) := ((same_new na).trans (same_new nr)).trans (same_new np)
  refine ⟨But.of sm, ((hh.new na).new nr).new np, c, ok, p, pa, pr, u, rfl, SqT.of upd_same, ?_, ?_, ?_⟩
  · rw [e1]
    exact same_sqt ((same_new nr).trans (same_new np)) (SqT.of upd_same)
  · rw [e2]
    exact same_sqt (same_new np) (SqT.of upd_same)
  · have h := fun p xs (q : SqT K H0 p xs) => same_sqt sm q
    cases c with
    | l w x => exact ExAt.imp h lf
    | r w x => exact ExAt.imp h lf
    | times f => trivial
    | «by» i => trivial
    | whenL i c x => exact ExAt.imp h lf
    | whenR i c x => exact ExAt.imp h lf
    | whrL i c x => exact ExAt.imp h lf
    | whrR i c x => exact ExAt.imp h lf
theorem Mp.from {K : PySem.W.Frag} {a : Addr} {many k : Nat} {H0 H1 H' : Hp} {v : V} (m : Mp K a many k H1 v H') (b : But a H0 H1) : Mp K a many k H0 v H' := ⟨b.trans m.1, m.2⟩
theorem all_cs {K : PySem.W.Frag} {many : Nat} {H : Hp} : ∀ {xs : List V}, (∀ v ∈ xs, CV K many H v) → ∃ cs, CtxsAt K H xs cs ∧ (∀ c ∈ cs, c.ok many)
  | [], _ => ⟨[], trivial, fun c h => by cases h⟩
  | v :: xs, h => by
    obtain ⟨cs, h1, h2⟩ := all_cs (xs := xs) fun v hv => h v (List.mem_cons_of_mem _ hv)
    obtain ⟨c, o, q⟩ := h v List.mem_cons_self
    refine ⟨c :: cs, ⟨q, h1⟩, fun c' hc => ?_⟩
    rcases List.mem_cons.mp hc with rfl | hc
    · exact o
    · exact h2 c' hc
section
variable {P : Program} {w : World} {K : PySem.W.Frag} {mg : Str → Option Value} {base : Heap}
theorem ok_around {f : Addr} {fd : FuncData} (F : Fun K "_law_around" "_law_around" s_L_around f fd) (gF : mg "_law_around" = some (.ref f)) (b : Binds K fd ["_law_hand_here", "_law_many"] []) (B : Bl mg) (c_L_take : Cal P w K mg base 1 "_law_take" spTake) (c_L_of : Cal P w K mg base 2 "_law_of" (spOf K)) (c_L_figure : Cal P w K mg base 3 "_law_figure" spFigure) (c_L_leaf : Cal P w K mg base 4 "_law_leaf" (spLeaf K)) : Cal P w K mg base 5 "_law_around" (spAround K) := by
  refine ⟨f, fd, _, F.ok sc_L_around (fun vs H Q E h => ?_) (fun cdv A outer s H vs Q E hr h => ?_), gF, F.kp, b⟩
  · obtain ⟨_, _, _, rfl, _⟩ := h
    rfl
  · obtain ⟨a, many, n, rfl, hm1, hm2, hh, hn, q⟩ := h
    refine ⟨_, (pss_cons (ps_set (i := 2) sc_L_around.nd rfl (.inl rfl) (pe_lst pa_nil)) (pss_cons (ps_for PassesOwn.never rfl (pi_range1 rfl B.range (pa_cons (pe_c c_L_take hr (by omega) (by rfl) (pa_cons (pv 0) (pa_cons pe_int pa_nil))) pa_nil)) (pg_name (i := 3) sc_L_around.nd rfl (.inl rfl)) (pss_cons (ps_par (i := 4) (j := 5) rfl sc_L_around.nd rfl rfl (by decide) rfl rfl (pa_cons (pe_c c_L_leaf hr (by omega) (by rfl) (pa_cons (pv 0) (pa_cons (pv 1) pa_nil))) (pa_cons (pe_c c_L_take hr (by omega) (by rfl) (pa_cons (pv 0) (pa_cons pe_int pa_nil))) pa_nil)) (by rfl)) (pss_cons (ps_set (i := 6) sc_L_around.nd rfl (.inl rfl) (pe_c c_L_of hr (by omega) (by rfl) (pa_cons (pv 0) (pa_cons (pe_lst (pa_cons pe_str (pa_cons pe_str (pa_cons pe_str (pa_cons pe_str pa_nil))))) pa_nil)))) (pss_cons (ps_set (i := 7) sc_L_around.nd rfl (.inl rfl) (pe_lst (pa_cons (pe_cut (pe_tup (pa_cons (pe_tup (pa_cons (pv 6) pa_nil)) (pa_cons (pe_tup (pa_cons (pv 4) pa_nil)) pa_nil)))) (pa_cons (pe_cut (pe_tup (pa_cons (pe_tup (pa_cons (pv 6) (pa_cons (pv 4) pa_nil))) (pa_cons (pe_tup pa_nil) pa_nil)))) (pa_cons (pe_cut (pe_tup (pa_cons (pe_tup (pa_cons pe_str (pa_cons (pe_op op_sub (pe_c c_L_take hr (by omega) (by rfl) (pa_cons (pv 0) (pa_cons pe_int pa_nil))) pe_int) pa_nil))) (pa_cons (pe_tup pa_nil) pa_nil)))) (pa_cons (pe_cut (pe_tup (pa_cons (pe_tup (pa_cons pe_str (pa_cons (pv 5) pa_nil))) (pa_cons (pe_tup pa_nil) pa_nil)))) pa_nil)))))) (pss_cons (ps_expr (pe_bm PySem.F.plainAttrs_list PySem.F.slot_list_extend PySem.F.type_list_extend mt_extend (pv 7) (pa_cons (pe_lst (pa_cons (pe_cut (pe_tup (pa_cons (pe_tup (pa_cons pe_str (pa_cons (pv 5) (pa_cons (pe_c c_L_figure hr (by omega) (by rfl) (pa_cons (pv 0) pa_nil)) pa_nil)))) (pa_cons (pe_tup (pa_cons (pv 4) pa_nil)) pa_nil)))) (pa_cons (pe_cut (pe_tup (pa_cons (pe_tup (pa_cons pe_str (pa_cons (pv 5) (pa_cons (pe_c c_L_figure hr (by omega) (by rfl) (pa_cons (pv 0) pa_nil)) (pa_cons (pv 4) pa_nil))))) (pa_cons (pe_tup pa_nil) pa_nil)))) pa_nil))) pa_nil))) (pss_cons (ps_set (i := 8) sc_L_around.nd rfl (.inl rfl) (pe_op op_add pe_int (pe_c c_L_take hr (by omega) (by rfl) (pa_cons (pv 0) (pa_cons pe_int pa_nil))))) (pss_cons (ps_expr (pe_bm PySem.F.plainAttrs_list PySem.F.slot_list_extend PySem.F.type_list_extend mt_extend (pv 7) (pa_cons (pe_lst (pa_cons (pe_cut (pe_tup (pa_cons (pe_tup (pa_cons pe_str (pa_cons (pv 5) (pa_cons (pv 8) pa_nil)))) (pa_cons (pe_tup (pa_cons (pv 4) pa_nil)) pa_nil)))) (pa_cons (pe_cut (pe_tup (pa_cons (pe_tup (pa_cons pe_str (pa_cons (pv 5) (pa_cons (pv 8) (pa_cons (pv 4) pa_nil))))) (pa_cons (pe_tup pa_nil) pa_nil)))) pa_nil))) pa_nil))) (pss_one (ps_expr (pe_bm PySem.F.plainAttrs_list PySem.F.slot_list_append PySem.F.type_list_append mt_append (pv 2) (pa_cons (pe_c c_L_of hr (by omega) (by rfl) (pa_cons (pv 0) (pa_cons (pv 7) pa_nil))) pa_nil))))))))))) (pss_one (ps_ret (pv 2))))), ?_⟩
    refine ⟨(by show 0 ≤ sizeLine; decide), fun fl nfl => ?_⟩
    have hfa := hh.ne nfl
    refine ⟨.ref a, rfl, a, 5, n, rfl, by decide, by decide, hh.new nfl, by omega, fun H1 rt b1 hh1 rt0 rt1 => ⟨rt, rfl, by omega, by omega, ?_⟩⟩
    have e1 : H1 fl = some (.lst []) := b1 _ _ hfa upd_same
    refine for_range (n := rt.toNat) (fun i σ H' => ∃ y3 y4 y5 y6 y7 y8, ∃ xs : List V, σ = [some (.ref a), some (.int (many : Int)), some (.ref fl), y3, y4, y5, y6, y7, y8] ∧ But a H H' ∧ HandAt H' a (n + 1 + 20 * i) ∧ H' fl = some (.lst xs) ∧ xs.length = i ∧ ∀ v ∈ xs, CV K many H' v) ⟨none, none, none, none, none, none, [], rfl, (But.new nfl).trans b1, hh1, e1, rfl, fun v h => by cases h⟩ ?_ ?_
    · rintro i σ H2 hi ⟨y3, y4, y5, y6, y7, y8, xs, rfl, b2, hh2, hfl, hlen, hall⟩
      have hi4 : i < 4 := by omega
      -- leaf, at
      refine ⟨.ref a, rfl, .int (many : Int), rfl, a, many, _, rfl, by omega, by omega, hh2, by omega, fun H3 lv le b3 hh3 xl ol dl => ?_⟩
      refine ⟨.ref a, rfl, a, 2, _, rfl, by decide, by decide, hh3, by omega, fun H4 az b4 hh4 az0 az1 => ⟨_, _, rfl, ?_⟩⟩
      obtain ⟨at', rfl⟩ : ∃ m : Nat, az = (m : Int) := ⟨az.toNat, by omega⟩
      have xl := xl.but b4 hh3
      -- word
      refine ⟨.ref a, rfl, (by show 4 ≤ sizeLine; decide), fun lw nlw => ?_⟩
      have hh4' := hh4.new (o := .lst [.str "sum", .str "less", .str "least", .str "most"]) nlw
      have xl := xl.new (o := .lst [.str "sum", .str "less", .str "least", .str "most"]) nlw
      refine ⟨a, lw, _, _, rfl, (hh4.ne nlw).symm, upd_same, (by show 0 < 4; decide), (by show 4 ≤ 1000; decide), hh4', by omega, fun H5 v b5 hh5 hv => ?_⟩
      have xl := xl.but b5 hh4'
      obtain ⟨o, rfl⟩ : ∃ o : W4, v = .str (wn o) := by
        have hv : v ∈ ([.str "sum", .str "less", .str "least", .str "most"] : List V) := hv
        simp only [List.mem_cons, List.not_mem_nil, or_false] at hv
        rcases hv with rfl | rfl | rfl | rfl
        · exact ⟨.sum, rfl⟩
        · exact ⟨.less, rfl⟩
        · exact ⟨.least, rfl⟩
        · exact ⟨.most, rfl⟩
      have b25 : But a H2 H5 := ((b3.trans b4).trans (But.new nlw)).trans b5
      -- some: four pairs
      refine ⟨Mp K a many (n + 1 + 20 * i + 7) H5, ?_, fun v1 H6 m1 => ?_⟩
      · exact ⟨_, rfl, (by show 1 ≤ sizeLine; decide), fun pa na => ⟨lv, rfl, (by show 1 ≤ sizeLine; decide), fun pr nr => ⟨(by show 2 ≤ sizeLine; decide), fun p np => mk_pair (.l o le) lv hh5 ⟨ol, dl⟩ xl rfl rfl na nr np⟩⟩⟩
      obtain ⟨b6, hh6, c1⟩ := m1
      have xl := xl.but b6 hh5
      refine ⟨Mp K a many (n + 1 + 20 * i + 7) H6, ?_, fun v2 H7 m2 => ?_⟩
      · exact ⟨_, rfl, lv, rfl, (by show 2 ≤ sizeLine; decide), fun pa na => ⟨(by show 0 ≤ sizeLine; decide), fun pr nr => ⟨(by show 2 ≤ sizeLine; decide), fun p np => mk_pair (.r o le) lv hh6 ⟨ol, dl⟩ xl rfl rfl na nr np⟩⟩⟩
      obtain ⟨b7, hh7, c2⟩ := m2
      have xl := xl.but b7 hh6
      have c1 := c1.but b7 hh6
      refine ⟨Mp K a many (n + 1 + 20 * i + 8) H7, ?_, fun v3 H8 m3 => ?_⟩
      · exact ⟨.ref a, rfl, a, 19, _, rfl, by decide, by decide, hh7, by omega, fun H' r b' hh' r0 r1 => ⟨_, _, rfl, rfl, (by show 2 ≤ sizeLine; decide), fun pa na => ⟨(by show 0 ≤ sizeLine; decide), fun pr nr => ⟨(by show 2 ≤ sizeLine; decide), fun p np => (mk_pair (.times (r - 9)) lv hh' (show -9 ≤ r - 9 ∧ r - 9 ≤ 9 by omega) trivial rfl rfl na nr np).from b'⟩⟩⟩⟩
      obtain ⟨b8, hh8, c3⟩ := m3
      have xl := xl.but b8 hh7
      have c1 := c1.but b8 hh7
      have c2 := c2.but b8 hh7
      refine ⟨Mp K a many (n + 1 + 20 * i + 8) H8, ?_, fun v4 H9 m4 => ⟨(by show 4 ≤ sizeLine; decide), fun ls nls => ?_⟩⟩
      · exact ⟨_, rfl, (by show 2 ≤ sizeLine; decide), fun pa na => ⟨(by show 0 ≤ sizeLine; decide), fun pr nr => ⟨(by show 2 ≤ sizeLine; decide), fun p np => mk_pair (.by at') lv hh8 (show at' < 4 by omega) trivial rfl rfl na nr np⟩⟩⟩
      obtain ⟨b9, hh9, c4⟩ := m4
      have xl := xl.but b9 hh8
      have c1 := c1.but b9 hh8
      have c2 := c2.but b9 hh8
      have c3 := c3.but b9 hh8
      have hlsa := hh9.ne nls
      have bls : But a H9 (upd H9 ls (.lst [v1, v2, v3, v4])) := But.new nls
      have hh10 : HandAt (upd H9 ls (.lst [v1, v2, v3, v4])) a (n + 1 + 20 * i + 8) := hh9.new nls
      have hls : (upd H9 ls (.lst [v1, v2, v3, v4])) ls = some (.lst [v1, v2, v3, v4]) := upd_same
      have xl := xl.but bls hh9
      have c1 := c1.but bls hh9
      have c2 := c2.but bls hh9
      have c3 := c3.but bls hh9
      have c4 := c4.but bls hh9
      have b2' : But a H2 (upd H9 ls (.lst [v1, v2, v3, v4])) := ((((b25.trans b6).trans b7).trans b8).trans b9).trans bls
      clear bls
      revert hh10 hls xl c1 c2 c3 c4 b2'
      generalize (upd H9 ls (.lst [v1, v2, v3, v4])) = H10
      intro hh10 hls xl c1 c2 c3 c4 b10
      -- extend: whens
      refine ⟨.ref ls, rfl, .inl ⟨rfl, _, SqL.of hls⟩, ?_⟩
      refine ⟨Mp K a many (n + 1 + 20 * i + 11) H10, ?_, fun v5 H11 m5 => ?_⟩
      · exact ⟨_, rfl, .ref a, rfl, a, _, rfl, hh10, by omega, fun H' cc b' hh' c0 c9 => ⟨(by show 3 ≤ sizeLine; decide), fun pa na => ⟨lv, rfl, (by show 1 ≤ sizeLine; decide), fun pr nr => ⟨(by show 2 ≤ sizeLine; decide), fun p np => (mk_pair (.whenL at' cc le) lv hh' ⟨by omega, ⟨c0, c9⟩, ol, dl⟩ (xl.but b' hh10) rfl rfl na nr np).from b'⟩⟩⟩⟩
      obtain ⟨b11, hh11, c5⟩ := m5
      have xl := xl.but b11 hh10
      refine ⟨Mp K a many (n + 1 + 20 * i + 14) H11, ?_, fun v6 H12 m6 => ⟨(by show 2 ≤ sizeLine; decide), fun l2 nl2 => ?_⟩⟩
      · exact ⟨_, rfl, .ref a, rfl, a, _, rfl, hh11, by omega, fun H' cc b' hh' c0 c9 => ⟨lv, rfl, (by show 4 ≤ sizeLine; decide), fun pa na => ⟨(by show 0 ≤ sizeLine; decide), fun pr nr => ⟨(by show 2 ≤ sizeLine; decide), fun p np => (mk_pair (.whenR at' cc le) lv hh' ⟨by omega, ⟨c0, c9⟩, ol, dl⟩ (xl.but b' hh11) rfl rfl na nr np).from b'⟩⟩⟩⟩
      obtain ⟨b12, hh12, c6⟩ := m6
      have xl := xl.but b12 hh11
      have c5 := c5.but b12 hh11
      have c1 := (c1.but b11 hh10).but b12 hh11
      have c2 := (c2.but b11 hh10).but b12 hh11
      have c3 := (c3.but b11 hh10).but b12 hh11
      have c4 := (c4.but b11 hh10).but b12 hh11
      have hls12 := b12 _ _ hlsa (b11 _ _ hlsa hls)
      have nel : ls ≠ l2 := ne_of_none hls12 nl2
      refine ⟨ls, l2, _, _, rfl, rfl, (upd_ne nel).trans hls12, upd_same, (by show 6 ≤ sizeLine; decide), ?_⟩
      have bx : But a H12 (upd (upd H12 l2 (.lst [v5, v6])) ls (.lst ([v1, v2, v3, v4] ++ [v5, v6]))) → True := fun _ => trivial
      have keep : ∀ p ys, SqT K H12 p ys → SqT K (upd (upd H12 l2 (.lst [v5, v6])) ls (.lst ([v1, v2, v3, v4] ++ [v5, v6]))) p ys := fun p ys h => put_sqt ((upd_ne nel).trans hls12) (same_sqt (same_new nl2) h)
      have hh13 : HandAt (upd (upd H12 l2 (.lst [v5, v6])) ls (.lst ([v1, v2, v3, v4] ++ [v5, v6]))) a (n + 1 + 20 * i + 14) := (hh12.new nl2).put hlsa
      have hls13 : (upd (upd H12 l2 (.lst [v5, v6])) ls (.lst ([v1, v2, v3, v4] ++ [v5, v6]))) ls = some (.lst ([v1, v2, v3, v4] ++ [v5, v6])) := upd_same
      have oth13 : ∀ b' o', b' ≠ a → b' ≠ ls → H12 b' = some o' → (upd (upd H12 l2 (.lst [v5, v6])) ls (.lst ([v1, v2, v3, v4] ++ [v5, v6]))) b' = some o' := fun b' o' _ h2 h3 => by rw [upd_ne h2, upd_ne (ne_of_none h3 nl2)]; exact h3
      have cvs : ∀ v, CV K many H12 v → CV K many (upd (upd H12 l2 (.lst [v5, v6])) ls (.lst ([v1, v2, v3, v4] ++ [v5, v6]))) v := fun v ⟨c, o, q⟩ => ⟨c, o, q.imp keep⟩
      have xl := xl.imp keep
      have c1 := cvs _ c1
      have c2 := cvs _ c2
      have c3 := cvs _ c3
      have c4 := cvs _ c4
      have c5 := cvs _ c5
      have c6 := cvs _ c6
      clear cvs keep bx
      revert hh13 hls13 oth13 xl c1 c2 c3 c4 c5 c6
      generalize (upd (upd H12 l2 (.lst [v5, v6])) ls (.lst ([v1, v2, v3, v4] ++ [v5, v6]))) = H13
      intro hh13 hls13 oth13 xl c1 c2 c3 c4 c5 c6
      -- figure
      refine ⟨.ref a, rfl, a, 1000, _, rfl, by decide, by decide, hh13, by omega, fun H14 fz b14 hh14 fz0 fz1 => ⟨_, _, rfl, rfl, ?_⟩⟩
      have xl := xl.but b14 hh13
      have c1 := c1.but b14 hh13
      have c2 := c2.but b14 hh13
      have c3 := c3.but b14 hh13
      have c4 := c4.but b14 hh13
      have c5 := c5.but b14 hh13
      have c6 := c6.but b14 hh13
      have hls14 := b14 _ _ hlsa hls13
      -- extend: wheres
      refine ⟨.ref ls, rfl, .inl ⟨rfl, _, SqL.of hls14⟩, ?_⟩
      refine ⟨Mp K a many (n + 1 + 20 * i + 15) H14, ?_, fun v7 H15 m7 => ?_⟩
      · exact ⟨_, rfl, _, rfl, (by show 3 ≤ sizeLine; decide), fun pa na => ⟨lv, rfl, (by show 1 ≤ sizeLine; decide), fun pr nr => ⟨(by show 2 ≤ sizeLine; decide), fun p np => mk_pair (.whrL at' (1 + fz) le) lv hh14 ⟨by omega, ⟨by omega, by omega⟩, ol, dl⟩ xl rfl rfl na nr np⟩⟩⟩
      obtain ⟨b15, hh15, c7⟩ := m7
      have xl := xl.but b15 hh14
      refine ⟨Mp K a many (n + 1 + 20 * i + 15) H15, ?_, fun v8 H16 m8 => ⟨(by show 2 ≤ sizeLine; decide), fun l3 nl3 => ?_⟩⟩
      · exact ⟨_, rfl, _, rfl, lv, rfl, (by show 4 ≤ sizeLine; decide), fun pa na => ⟨(by show 0 ≤ sizeLine; decide), fun pr nr => ⟨(by show 2 ≤ sizeLine; decide), fun p np => mk_pair (.whrR at' (1 + fz) le) lv hh15 ⟨by omega, ⟨by omega, by omega⟩, ol, dl⟩ xl rfl rfl na nr np⟩⟩⟩
      obtain ⟨b16, hh16, c8⟩ := m8
      have c7 := c7.but b16 hh15
      have c1 := (c1.but b15 hh14).but b16 hh15
      have c2 := (c2.but b15 hh14).but b16 hh15
      have c3 := (c3.but b15 hh14).but b16 hh15
      have c4 := (c4.but b15 hh14).but b16 hh15
      have c5 := (c5.but b15 hh14).but b16 hh15
      have c6 := (c6.but b15 hh14).but b16 hh15
      have hls16 := b16 _ _ hlsa (b15 _ _ hlsa hls14)
      have nel3 : ls ≠ l3 := ne_of_none hls16 nl3
      refine ⟨ls, l3, _, _, rfl, rfl, (upd_ne nel3).trans hls16, upd_same, (by show 8 ≤ sizeLine; decide), ?_⟩
      have keep : ∀ p ys, SqT K H16 p ys → SqT K (upd (upd H16 l3 (.lst [v7, v8])) ls (.lst ([v1, v2, v3, v4] ++ [v5, v6] ++ [v7, v8]))) p ys := fun p ys h => put_sqt ((upd_ne nel3).trans hls16) (same_sqt (same_new nl3) h)
      have hh17 : HandAt (upd (upd H16 l3 (.lst [v7, v8])) ls (.lst ([v1, v2, v3, v4] ++ [v5, v6] ++ [v7, v8]))) a (n + 1 + 20 * i + 15) := (hh16.new nl3).put hlsa
      have hls17 : (upd (upd H16 l3 (.lst [v7, v8])) ls (.lst ([v1, v2, v3, v4] ++ [v5, v6] ++ [v7, v8]))) ls = some (.lst ([v1, v2, v3, v4] ++ [v5, v6] ++ [v7, v8])) := upd_same
      have oth17 : ∀ b' o', b' ≠ a → b' ≠ ls → H16 b' = some o' → (upd (upd H16 l3 (.lst [v7, v8])) ls (.lst ([v1, v2, v3, v4] ++ [v5, v6] ++ [v7, v8]))) b' = some o' := fun b' o' _ h2 h3 => by rw [upd_ne h2, upd_ne (ne_of_none h3 nl3)]; exact h3
      have all8 : ∀ v ∈ [v1, v2, v3, v4] ++ [v5, v6] ++ [v7, v8], CV K many (upd (upd H16 l3 (.lst [v7, v8])) ls (.lst ([v1, v2, v3, v4] ++ [v5, v6] ++ [v7, v8]))) v := fun v hv => by
        have cvs : ∀ v, CV K many H16 v → CV K many (upd (upd H16 l3 (.lst [v7, v8])) ls (.lst ([v1, v2, v3, v4] ++ [v5, v6] ++ [v7, v8]))) v := fun v ⟨c, o, q⟩ => ⟨c, o, q.imp keep⟩
        refine cvs v ?_
        simp only [List.cons_append, List.nil_append, List.mem_cons, List.not_mem_nil, or_false] at hv
        rcases hv with rfl | rfl | rfl | rfl | rfl | rfl | rfl | rfl <;> assumption
      clear keep
      revert hh17 hls17 oth17 all8
      generalize (upd (upd H16 l3 (.lst [v7, v8])) ls (.lst ([v1, v2, v3, v4] ++ [v5, v6] ++ [v7, v8]))) = H17
      intro hh17 hls17 oth17 all8
      -- what stood at the turn's start stands still, but for the hand
      have b217 : ∀ b' o', b' ≠ a → H2 b' = some o' → H17 b' = some o' := fun b' o' nb e => by
        have e9 : H9 b' = some o' := b9 _ _ nb (b8 _ _ nb (b7 _ _ nb (b6 _ _ nb (b25 _ _ nb e))))
        have nls' : b' ≠ ls := ne_of_none e9 nls
        exact oth17 _ _ nb nls' (b16 _ _ nb (b15 _ _ nb (b14 _ _ nb (oth13 _ _ nb nls' (b12 _ _ nb (b11 _ _ nb (b10 _ _ nb e)))))))
      have b217 : But a H2 H17 := b217
      have hfl17 := b217 _ _ hfa hfl
      refine ⟨.ref fl, rfl, .inl ⟨rfl, _, SqL.of hfl17⟩, .ref a, rfl, .ref ls, rfl, a, ls, _, _, rfl, hlsa.symm, hls17, (by show 0 < 8; decide), (by show 8 ≤ 1000; decide), hh17, by omega, fun H18 vv b18 hh18 hvv => ?_⟩
      have hfl18 := b18 _ _ hfa hfl17
      refine ⟨fl, _, _, rfl, rfl, hfl18, small1000 (by omega), ?_⟩
      have keep : ∀ p ys, SqT K H18 p ys → SqT K (upd H18 fl (.lst (xs ++ [vv]))) p ys := fun p ys h => put_sqt hfl18 h
      refine ⟨_, _, _, _, _, _, xs ++ [vv], rfl, fun b' o' nb e => ?_, (hh18.put hfa).le (by omega), upd_same, by rw [List.length_append, hlen]; rfl, fun v hv => ?_⟩
      · rw [upd_ne (ne_of_none e nfl)]
        exact b18 _ _ nb (b217 _ _ nb (b2 _ _ nb e))
      · rcases List.mem_append.mp hv with hv | hv
        · obtain ⟨c, oc, qc⟩ := ((hall v hv).but b217 hh2).but b18 hh17
          exact ⟨c, oc, qc.imp keep⟩
        · rw [List.mem_singleton.mp hv]
          obtain ⟨c, oc, qc⟩ := (all8 vv hvv).but b18 hh17
          exact ⟨c, oc, qc.imp keep⟩
    · rintro σ H2 ⟨y3, y4, y5, y6, y7, y8, xs, rfl, b2, hh2, hfl, hlen, hall⟩
      obtain ⟨cs, h1, h2⟩ := all_cs hall
      have hl := h1.len
      exact ⟨.ref fl, rfl, q _ fl xs cs b2 (hh2.le (by omega)) hfa hfl h1 h2 (by omega)⟩
end
end NG

namespace NG
open PySem PySem.Spec PyProof.Rows L2
def spMoves (K : PySem.W.Frag) : Sp := fun vs H Q _ => ∃ (a : Addr) (many n : Nat) (v : V) (e : Ex), vs = [.ref a, .int (many : Int), v] ∧ 2 ≤ many ∧ many ≤ 3 ∧ HandAt H a n ∧ n ≤ 999990000 ∧ ExAt K H e v ∧ ExOk many e ∧ e.dep ≤ 3 ∧
  ∀ H', But a H H' → HandAt H' a (n + 220) → Q (.bl true) H'
theorem btw_le {d m : Int} (h : Btw d m) : (if m < 0 then m else 0) ≤ d ∧ d ≤ (if m > 0 then m else 0) := by
  unfold Btw at h
  split <;> split <;> omega
theorem HandAt.same {H H' : Hp} {a : Addr} {n : Nat} (h : HandAt H a n) (s : Same H H') : HandAt H' a n := by
  obtain ⟨g, sd, m, e, z⟩ := h
  exact ⟨g, sd, m, s _ _ e, z⟩
section
variable {P : Program} {w : World} {K : PySem.W.Frag} {mg : Str → Option Value} {base : Heap}
theorem ok_moves {f : Addr} {fd : FuncData} (F : Fun K "_law_moves_right" "_law_moves_right" s_L_moves_right f fd) (gF : mg "_law_moves_right" = some (.ref f)) (b : Binds K fd ["_law_hand_here", "_law_many", "_law_expression_here"] []) (B : Bl mg) (c_L_take : Cal P w K mg base 1 "_law_take" spTake) (c_L_of : Cal P w K mg base 2 "_law_of" (spOf K)) (c_L_around : Cal P w K mg base 5 "_law_around" (spAround K)) (c_L_put : Cal P w K mg base 1 "_law_put" (spPut K)) (c_span : Cal P w K mg base 9 "span" (spSpan K 7)) (c_L_shares : Cal P w K mg base 3 "_law_shares" (spShares K)) (c_L_registers : Cal P w K mg base 4 "_law_registers" (spRegs K)) (c_worth : Cal P w K mg base 10 "worth" (spWorth K 8)) (cfac : ∀ many, Cal P w K mg base 1 "_law_factor" (spFac K many)) : Cal P w K mg base 11 "_law_moves_right" (spMoves K) := by
  refine ⟨f, fd, _, F.ok sc_L_moves_right (fun vs H Q E h => ?_) (fun cdv A outer s H vs Q E hr h => ?_), gF, F.kp, b⟩
  · obtain ⟨_, _, _, _, _, rfl, _⟩ := h
    rfl
  · obtain ⟨a, many, n, v, e, rfl, hm1, hm2, hh, hn, he, ho, hd, q⟩ := h
    have c_L_factor := cfac many
    refine ⟨_, (pss_cons (ps_par (i := 3) (j := 4) rfl sc_L_moves_right.nd rfl rfl (by decide) rfl rfl (pa_cons (pe_c c_L_around hr (by omega) (by rfl) (pa_cons (pv 0) (pa_cons (pv 1) pa_nil))) (pa_cons (pe_c c_L_of hr (by omega) (by rfl) (pa_cons (pv 0) (pa_cons (pe_lst (pa_cons pe_int (pa_cons pe_int (pa_cons pe_int (pa_cons (pe_c c_L_take hr (by omega) (by rfl) (pa_cons (pv 0) (pa_cons pe_int pa_nil))) pa_nil))))) pa_nil))) pa_nil)) (by rfl)) (pss_cons (ps_par (i := 5) (j := 6) rfl sc_L_moves_right.nd rfl rfl (by decide) rfl rfl (pa_cons (pe_c c_L_put hr (by omega) (by rfl) (pa_cons (pv 3) (pa_cons (pv 2) pa_nil))) (pa_cons (pe_c c_L_put hr (by omega) (by rfl) (pa_cons (pv 3) (pa_cons (pe_tup (pa_cons pe_str (pa_cons (pv 2) (pa_cons (pe_tup (pa_cons pe_str (pa_cons (pv 4) pa_nil))) pa_nil)))) pa_nil))) pa_nil)) (by rfl)) (pss_cons (ps_asg (pe_c c_span hr (by omega) (by rfl) (pa_cons (pv 5) pa_nil)) (pg_tup rfl (pgs_cons (pg_name (i := 7) sc_L_moves_right.nd rfl (.inl rfl)) (pgs_cons (pg_name (i := 8) sc_L_moves_right.nd rfl (.inl rfl)) pgs_nil)))) (pss_cons (ps_for PassesOwn.never rfl (pi_range1 rfl B.range (pa_cons pe_int pa_nil)) (pg_name (i := 9) sc_L_moves_right.nd rfl (.inl rfl)) (pss_cons (ps_par (i := 10) (j := 11) rfl sc_L_moves_right.nd rfl rfl (by decide) rfl rfl (pa_cons (pe_c c_L_shares hr (by omega) (by rfl) (pa_cons (pv 0) (pa_cons (pv 1) pa_nil))) (pa_cons (pe_c c_L_registers hr (by omega) (by rfl) (pa_cons (pv 0) pa_nil)) pa_nil)) (by rfl)) (pss_cons (ps_set (i := 12) sc_L_moves_right.nd rfl (.inl rfl) (pe_c c_worth hr (by omega) (by rfl) (pa_cons (pv 5) (pa_cons (pv 11) (pa_cons (pv 10) pa_nil))))) (pss_cons (ps_par (i := 13) (j := 14) rfl sc_L_moves_right.nd rfl rfl (by decide) rfl rfl (pa_cons (pe_op op_sub (pe_c c_worth hr (by omega) (by rfl) (pa_cons (pv 6) (pa_cons (pv 11) (pa_cons (pv 10) pa_nil)))) (pv 12)) (pa_cons (pe_op op_mul (pe_op op_mul (pe_c c_L_factor hr (by omega) (by rfl) (pa_cons (pv 3) (pa_cons (pv 11) pa_nil))) (pv 4)) (pe_callB (cr_sumT rfl) (by rfl) B.sum (by decide +kernel) (pa_cons (pv 10) pa_nil))) pa_nil)) (by rfl)) (pss_one (ps_if (PW.pt (pw_or (pt_not (pt_chain op_le op_le (pe_callB (call_min2 rfl) (by rfl) B.min (by decide +kernel) (pa_cons pe_int (pa_cons (pv 14) pa_nil))) (pv 13) (pe_callB (call_max2 rfl) (by rfl) B.max (by decide +kernel) (pa_cons pe_int (pa_cons (pv 14) pa_nil))))) (pw_or1 (pt_not (pt_chain op_le op_le (pe_op op_mul (pv 7) (pe_callB (cr_sumT rfl) (by rfl) B.sum (by decide +kernel) (pa_cons (pv 10) pa_nil))) (pv 12) (pe_op op_mul (pv 8) (pe_callB (cr_sumT rfl) (by rfl) B.sum (by decide +kernel) (pa_cons (pv 10) pa_nil)))))))) (pss_one (ps_ret pe_bl)) pss_nil)))))) (pss_one (ps_ret pe_bl)))))), ?_⟩
    refine ⟨.ref a, rfl, .int (many : Int), rfl, a, many, n, rfl, hm1, hm2, hh, by omega, fun H1 p xs cs b1 hh1 npa hp hcs hok hcl => ?_⟩
    refine ⟨.ref a, rfl, .ref a, rfl, a, 1001, _, rfl, by decide, by decide, hh1, by omega, fun H2 r b2 hh2 r0 r1 => ⟨(by show 4 ≤ sizeLine; decide), fun l nl => ?_⟩⟩
    have hh2' := hh2.new (o := .lst [.int 0, .int 1, .int 1000, .int r]) nl
    refine ⟨a, l, _, _, rfl, (hh2.ne nl).symm, upd_same, (by show 0 < 4; decide), (by show 4 ≤ 1000; decide), hh2', by omega, fun H3 v3 b3 hh3 hv3 => ⟨_, _, rfl, ?_⟩⟩
    obtain ⟨c, rfl, c0, c1⟩ : ∃ c : Int, v3 = .int c ∧ 0 ≤ c ∧ c ≤ 1000 := by
      have hv3 : v3 ∈ ([.int 0, .int 1, .int 1000, .int r] : List V) := hv3
      simp only [List.mem_cons, List.not_mem_nil, or_false] at hv3
      rcases hv3 with rfl | rfl | rfl | rfl
      all_goals exact ⟨_, rfl, by omega, by omega⟩
    have b13 : But a H1 H3 := (b2.trans (But.new nl)).trans b3
    have b03 := b1.trans b13
    have hp3 := b13 _ _ npa hp
    have hcs3 := hcs.imp fun _ _ q => b13.sq hh1 q
    have he3 := he.but b03 hh
    -- one
    refine ⟨.ref p, rfl, v, rfl, p, v, xs, cs, e, rfl, hp3, hcs3, he3, fun H4 u sm4 hu => ?_⟩
    -- other
    refine ⟨.ref p, rfl, v, rfl, .int c, rfl, (by show 2 ≤ sizeLine; decide), fun p1 n1 => ⟨(by show 3 ≤ sizeLine; decide), fun p2 n2 => ?_⟩⟩
    have sm6 := sm4.trans ((same_new (o := .tup [.str "fig", .int c]) n1).trans (same_new (o := .tup [.str "sum", v, .ref p1]) n2))
    have sm46 := (same_new (o := .tup [.str "fig", .int c]) n1).trans (same_new (o := .tup [.str "sum", v, .ref p1]) n2)
    have hp1 : (upd (upd H4 p1 (.tup [.str "fig", .int c])) p2 (.tup [.str "sum", v, .ref p1])) p1 = some (.tup [.str "fig", .int c]) := same_new n2 _ _ upd_same
    have hp2 : (upd (upd H4 p1 (.tup [.str "fig", .int c])) p2 (.tup [.str "sum", v, .ref p1])) p2 = some (.tup [.str "sum", v, .ref p1]) := upd_same
    revert sm6 sm46 hp1 hp2
    generalize (upd (upd H4 p1 (.tup [.str "fig", .int c])) p2 (.tup [.str "sum", v, .ref p1])) = H6
    intro sm6 sm46 hp1 hp2
    refine ⟨p, .ref p2, xs, cs, .two .sum e (.fig c), rfl, sm6 _ _ hp3, hcs3.imp fun _ _ q => same_sqt sm6 q, ⟨p2, v, .ref p1, rfl, SqT.of hp2, he3.same sm6, ⟨p1, rfl, SqT.of hp1⟩⟩, fun H7 u2 sm7 hu2 => ⟨_, _, rfl, ?_⟩⟩
    have o1 := putAll_ok hok ho
    have o2 : ExOk many (putAll cs (.two .sum e (.fig c))) := putAll_ok hok ⟨ho, ⟨by omega, by omega⟩⟩
    have d1 := putAll_dep (e := e) hok
    have d2 := putAll_dep (e := .two .sum e (.fig c)) hok
    have hd2 : Ex.dep (.two .sum e (.fig c)) = max e.dep 1 + 1 := rfl
    have sm47 := sm46.trans sm7
    have sm37 := sm6.trans sm7
    -- span
    refine ⟨u, rfl, u, putAll cs e, many, rfl, hu.same sm47, o1, by omega, fun H8 su sm8 hsu => ?_⟩
    obtain ⟨ps, rfl, hps⟩ := hsu
    refine ⟨ps, _, rfl, hps, rfl, _, _, rfl, _, _, rfl, rfl, ?_⟩
    have sm38 := sm37.trans sm8
    have hh8 := hh3.same sm38
    have b08 : But a H H8 := b03.trans (But.of sm38)
    have hu8 := (hu.same sm47).same sm8
    have hu28 := hu2.same sm8
    have hp8 := sm38 _ _ hp3
    have hcs8 := hcs3.imp fun _ _ q => same_sqt sm38 q
    refine ⟨3, rfl, by decide, by decide, ?_⟩
    refine for_range (n := (3 : Int).toNat) (fun i σ H' => ∃ y9 y10 y11 y12 y13 y14, σ = [some (.ref a), some (.int (many : Int)), some v, some (.ref p), some (.int c), some u, some u2, some (.int (spn (putAll cs e)).1), some (.int (spn (putAll cs e)).2), y9, y10, y11, y12, y13, y14] ∧ But a H8 H' ∧ HandAt H' a (n + 92 + 32 * i)) ⟨none, none, none, none, none, none, rfl, But.refl _ _, hh8⟩ ?_ ?_
    · rintro i σ H9 hi ⟨y9, y10, y11, y12, y13, y14, rfl, b9, hh9⟩
      have hi3 : i < 3 := hi
      refine ⟨.ref a, rfl, .int (many : Int), rfl, a, many, _, rfl, by omega, hm2, hh9, by omega, fun H10 sv ss b10 hh10 hsv => ?_⟩
      refine ⟨.ref a, rfl, a, _, rfl, hh10, by omega, fun H11 rv rs b11 hh11 hrv => ⟨_, _, rfl, ?_⟩⟩
      have b11' := (b9.trans b10).trans b11
      have hsv := hsv.imp fun _ _ q => b11.sq hh10 q
      have hu11 := hu8.but b11' hh8
      have hu211 := hu28.but b11' hh8
      have hp11 := b11' _ _ npa hp8
      have hcs11 := hcs8.imp fun _ _ q => b11'.sq hh8 q
      obtain ⟨sp, rfl, hs1, hs2, hs3, hs4, hs5⟩ := id hsv
      obtain ⟨rp, rfl, hr1, hr2, hr3⟩ := id hrv
      refine ⟨u, rfl, .ref rp, rfl, .ref sp, rfl, u, .ref rp, .ref sp, putAll cs e, many, rs, ss, rfl, hu11, o1, by omega, hrv, hsv, ?_⟩
      refine ⟨u2, rfl, .ref rp, rfl, .ref sp, rfl, u2, .ref rp, .ref sp, putAll cs (.two .sum e (.fig c)), many, rs, ss, rfl, hu211, o2, by omega, hrv, hsv, ?_⟩
      refine ⟨.int (wo rs ss (putAll cs e)), rfl, _, _, rfl, rfl, ?_⟩
      refine ⟨.ref p, rfl, .ref rp, rfl, p, .ref rp, xs, cs, rs, rfl, hp11, hcs11, hok, hrv, .int c, rfl, fac rs cs, c, rfl, rfl, .inr ⟨by omega, by omega⟩, .ref sp, rfl, sp, ss, rfl, hs1, fac rs cs * c, ss.sum, rfl, rfl, .inr ⟨by omega, by omega⟩, _, _, rfl, ?_⟩
      have hP : 0 ≤ c * ss.sum := Int.mul_nonneg c0 (by omega)
      have bt := btw_le (moved (rs := rs) (cs := cs) (e := e) hP)
      have bs := in_span hr2 hr3 hs2 (fun x hx => (hs3 x hx).1) (putAll cs e) o1
      refine ⟨.int (fac rs cs * c * ss.sum), rfl, _, _, rfl, .int (wo rs ss (putAll cs (.two .sum e (.fig c))) - wo rs ss (putAll cs e)), rfl, _, _, rfl, rfl, _, rfl, iteTT (decide_eq_true bt.1) ?_⟩
      refine ⟨.int (fac rs cs * c * ss.sum), rfl, _, _, rfl, _, _, rfl, rfl, _, rfl, iteFF (by rw [decide_eq_true bt.2]; rfl) ?_⟩
      refine ⟨.int (spn (putAll cs e)).1, rfl, .ref sp, rfl, sp, ss, rfl, hs1, _, _, rfl, rfl, .inr ⟨by omega, by omega⟩, .int (wo rs ss (putAll cs e)), rfl, _, _, rfl, rfl, _, rfl, iteTT (decide_eq_true bs.1) ?_⟩
      refine ⟨.int (spn (putAll cs e)).2, rfl, .ref sp, rfl, sp, ss, rfl, hs1, _, _, rfl, rfl, .inr ⟨by omega, by omega⟩, _, _, rfl, rfl, _, rfl, iteFF (by rw [decide_eq_true bs.2]; rfl) ?_⟩
      exact ⟨_, _, _, _, _, _, rfl, b11', hh11.le (by omega)⟩
    · rintro σ H9 ⟨y9, y10, y11, y12, y13, y14, rfl, b9, hh9⟩
      exact q _ (b08.trans b9) (hh9.le (by show n + 92 + 32 * 3 ≤ _; omega))
theorem cut_eq {x y z : Int} (h : x ≤ y) : jw .least y (jw .most x z) = (if (if z < y then z else y) > x then (if z < y then z else y) else x) := by
  simp only [jw]
  repeat' split
  all_goals omega
theorem ok_cut {f : Addr} {fd : FuncData} (F : Fun K "_law_cut_right" "_law_cut_right" s_L_cut_right f fd) (gF : mg "_law_cut_right" = some (.ref f)) (b : Binds K fd ["_law_hand_here", "_law_many", "_law_expression_here"] []) (B : Bl mg) (c_L_figure : Cal P w K mg base 3 "_law_figure" spFigure) (c_span : Cal P w K mg base 9 "span" (spSpan K 7)) (c_L_shares : Cal P w K mg base 3 "_law_shares" (spShares K)) (c_L_registers : Cal P w K mg base 4 "_law_registers" (spRegs K)) (c_worth : Cal P w K mg base 10 "worth" (spWorth K 8)) : Cal P w K mg base 11 "_law_cut_right" (spMoves K) := by
  refine ⟨f, fd, _, F.ok sc_L_cut_right (fun vs H Q E h => ?_) (fun cdv A outer s H vs Q E hr h => ?_), gF, F.kp, b⟩
  · obtain ⟨_, _, _, _, _, rfl, _⟩ := h
    rfl
  · obtain ⟨a, many, n, v, e, rfl, hm1, hm2, hh, hn, he, ho, hd, q⟩ := h
    refine ⟨_, (pss_cons (ps_set (i := 3) sc_L_cut_right.nd rfl (.inl rfl) (pe_callB cr_sorted (by rfl) B.sorted (by decide +kernel) (pa_cons (pe_lst (pa_cons (pe_c c_L_figure hr (by omega) (by rfl) (pa_cons (pv 0) pa_nil)) (pa_cons (pe_c c_L_figure hr (by omega) (by rfl) (pa_cons (pv 0) pa_nil)) pa_nil))) pa_nil))) (pss_cons (ps_set (i := 4) sc_L_cut_right.nd rfl (.inl rfl) (pe_tup (pa_cons pe_str (pa_cons (pe_tup (pa_cons pe_str (pa_cons (pe_ix ix_list (pv 3) pe_int (fun _ _ => rfl)) pa_nil))) (pa_cons (pe_tup (pa_cons pe_str (pa_cons (pe_tup (pa_cons pe_str (pa_cons (pe_ix ix_list (pv 3) pe_int (fun _ _ => rfl)) pa_nil))) (pa_cons (pv 2) pa_nil)))) pa_nil))))) (pss_cons (ps_asg (pe_c c_span hr (by omega) (by rfl) (pa_cons (pv 4) pa_nil)) (pg_tup rfl (pgs_cons (pg_name (i := 5) sc_L_cut_right.nd rfl (.inl rfl)) (pgs_cons (pg_name (i := 6) sc_L_cut_right.nd rfl (.inl rfl)) pgs_nil)))) (pss_cons (ps_for PassesOwn.never rfl (pi_range1 rfl B.range (pa_cons pe_int pa_nil)) (pg_name (i := 7) sc_L_cut_right.nd rfl (.inl rfl)) (pss_cons (ps_par (i := 8) (j := 9) rfl sc_L_cut_right.nd rfl rfl (by decide) rfl rfl (pa_cons (pe_c c_L_shares hr (by omega) (by rfl) (pa_cons (pv 0) (pa_cons (pv 1) pa_nil))) (pa_cons (pe_c c_L_registers hr (by omega) (by rfl) (pa_cons (pv 0) pa_nil)) pa_nil)) (by rfl)) (pss_cons (ps_par3 (i := 10) (j := 11) (l := 12) rfl sc_L_cut_right.nd rfl rfl rfl (by decide) (by decide) (by decide) rfl rfl rfl (pa_cons (pe_c c_worth hr (by omega) (by rfl) (pa_cons (pv 2) (pa_cons (pv 9) (pa_cons (pv 8) pa_nil)))) (pa_cons (pe_c c_worth hr (by omega) (by rfl) (pa_cons (pv 4) (pa_cons (pv 9) (pa_cons (pv 8) pa_nil)))) (pa_cons (pe_callB (cr_sumT rfl) (by rfl) B.sum (by decide +kernel) (pa_cons (pv 8) pa_nil)) pa_nil))) (by rfl)) (pss_one (ps_if (PW.pt (pw_or (pt_cmpR op_ne (pv 11) (pe_callB (call_max2 rfl) (by rfl) B.max (by decide +kernel) (pa_cons (pe_op op_mul (pe_ix ix_list (pv 3) pe_int (fun _ _ => rfl)) (pv 12)) (pa_cons (pe_callB (call_min2 rfl) (by rfl) B.min (by decide +kernel) (pa_cons (pe_op op_mul (pe_ix ix_list (pv 3) pe_int (fun _ _ => rfl)) (pv 12)) (pa_cons (pv 10) pa_nil))) pa_nil))) (nomark _)) (pw_or1 (pt_not (pt_chain3 op_le op_le op_le (pe_ix ix_list (pv 3) pe_int (fun _ _ => rfl)) (pv 5) (pv 6) (pe_ix ix_list (pv 3) pe_int (fun _ _ => rfl))))))) (pss_one (ps_ret pe_bl)) pss_nil))))) (pss_one (ps_ret pe_bl)))))), ?_⟩
    refine ⟨.ref a, rfl, a, n, rfl, hh, by omega, fun H1 g1 b1 hh1 g10 g11 => ?_⟩
    refine ⟨.ref a, rfl, a, _, rfl, hh1, by omega, fun H2 g2 b2 hh2 g20 g21 => ⟨(by show 2 ≤ sizeLine; decide), fun l nl => ?_⟩⟩
    refine ⟨l, [g1, g2], rfl, SqL.of upd_same, (by show 2 < 64; decide), fun ns l2 hperm hpw nl2 => ?_⟩
    obtain ⟨x, y, rfl, hxy, x0, x1, y0, y1⟩ : ∃ x y : Int, ns = [x, y] ∧ x ≤ y ∧ -1000 ≤ x ∧ x ≤ 1000 ∧ -1000 ≤ y ∧ y ≤ 1000 := by
      have hlen := hperm.length_eq
      match ns, hlen, hperm, hpw with
      | [x, y], _, hperm, hpw =>
        have hx := hperm.mem_iff.mp (List.mem_cons_self (a := x) (l := [y]))
        have hy := hperm.mem_iff.mp (List.mem_cons_of_mem x (List.mem_cons_self (a := y) (l := [])))
        simp only [List.mem_cons, List.not_mem_nil, or_false] at hx hy
        refine ⟨x, y, rfl, ?_, ?_⟩
        · have := (List.pairwise_cons.mp hpw).1 y (by simp)
          exact this
        · omega
    have hh3 := hh2.new (o := .lst ([g1, g2].map V.int)) nl
    have hl2 : (upd (upd H2 l (.lst ([g1, g2].map V.int))) l2 (.lst ([x, y].map V.int))) l2 = some (.lst [.int x, .int y]) := upd_same
    have sm24 : Same H2 (upd (upd H2 l (.lst ([g1, g2].map V.int))) l2 (.lst ([x, y].map V.int))) := (same_new nl).trans (same_new nl2)
    revert hl2 sm24
    show (upd (upd H2 l (.lst [.int g1, .int g2])) l2 (.lst ([x, y].map V.int))) l2 = _ → Same H2 (upd (upd H2 l (.lst [.int g1, .int g2])) l2 (.lst ([x, y].map V.int))) → _
    generalize (upd (upd H2 l (.lst [.int g1, .int g2])) l2 (.lst ([x, y].map V.int))) = H4
    intro hl2 sm24
    have b04 := (b1.trans b2).trans (But.of sm24)
    have hh4 := hh2.same sm24
    have he4 := he.but b04 hh
    have nel2 : l2 ≠ a := by
      intro z
      subst z
      obtain ⟨g, sd, m, eq, _⟩ := hh4
      rw [hl2] at eq
      cases eq
    -- cut
    refine ⟨.ref l2, rfl, l2, _, 1, _, rfl, rfl, SqL.of hl2, rfl, (by show 2 ≤ sizeLine; decide), fun p1 n1 => ?_⟩
    refine ⟨.ref l2, rfl, l2, _, 0, _, rfl, rfl, SqL.of (same_new n1 _ _ hl2), rfl, (by show 2 ≤ sizeLine; decide), fun p2 n2 => ⟨v, rfl, (by show 3 ≤ sizeLine; decide), fun p3 n3 => ⟨(by show 3 ≤ sizeLine; decide), fun p4 n4 => ?_⟩⟩⟩
    have sm48 : Same H4 (upd (upd (upd (upd H4 p1 (.tup [.str "fig", .int y])) p2 (.tup [.str "fig", .int x])) p3 (.tup [.str "most", .ref p2, v])) p4 (.tup [.str "least", .ref p1, .ref p3])) := (((same_new n1).trans (same_new n2)).trans (same_new n3)).trans (same_new n4)
    have q1 : (upd (upd (upd (upd H4 p1 (.tup [.str "fig", .int y])) p2 (.tup [.str "fig", .int x])) p3 (.tup [.str "most", .ref p2, v])) p4 (.tup [.str "least", .ref p1, .ref p3])) p1 = some (.tup [.str "fig", .int y]) := ((same_new n2).trans ((same_new n3).trans (same_new n4))) _ _ upd_same
    have q2 : (upd (upd (upd (upd H4 p1 (.tup [.str "fig", .int y])) p2 (.tup [.str "fig", .int x])) p3 (.tup [.str "most", .ref p2, v])) p4 (.tup [.str "least", .ref p1, .ref p3])) p2 = some (.tup [.str "fig", .int x]) := ((same_new n3).trans (same_new n4)) _ _ upd_same
    have q3 : (upd (upd (upd (upd H4 p1 (.tup [.str "fig", .int y])) p2 (.tup [.str "fig", .int x])) p3 (.tup [.str "most", .ref p2, v])) p4 (.tup [.str "least", .ref p1, .ref p3])) p3 = some (.tup [.str "most", .ref p2, v]) := same_new n4 _ _ upd_same
    have q4 : (upd (upd (upd (upd H4 p1 (.tup [.str "fig", .int y])) p2 (.tup [.str "fig", .int x])) p3 (.tup [.str "most", .ref p2, v])) p4 (.tup [.str "least", .ref p1, .ref p3])) p4 = some (.tup [.str "least", .ref p1, .ref p3]) := upd_same
    revert sm48 q1 q2 q3 q4
    generalize (upd (upd (upd (upd H4 p1 (.tup [.str "fig", .int y])) p2 (.tup [.str "fig", .int x])) p3 (.tup [.str "most", .ref p2, v])) p4 (.tup [.str "least", .ref p1, .ref p3])) = H8
    intro sm48 q1 q2 q3 q4
    have he8 := he4.same sm48
    have xc : ExAt K H8 (.two .least (.fig y) (.two .most (.fig x) e)) (.ref p4) := ⟨p4, .ref p1, .ref p3, rfl, SqT.of q4, ⟨p1, rfl, SqT.of q1⟩, ⟨p3, .ref p2, v, rfl, SqT.of q3, ⟨p2, rfl, SqT.of q2⟩, he8⟩⟩
    have oc : ExOk many (.two .least (.fig y) (.two .most (.fig x) e)) := ⟨⟨y0, y1⟩, ⟨x0, x1⟩, ho⟩
    have dc : Ex.dep (.two .least (.fig y) (.two .most (.fig x) e)) ≤ 5 := by
      show max 1 (max 1 e.dep + 1) + 1 ≤ 5
      omega
    have hl8 := sm48 _ _ hl2
    refine ⟨.ref p4, rfl, .ref p4, .two .least (.fig y) (.two .most (.fig x) e), many, rfl, xc, oc, by omega, fun H9 su sm9 hsu => ?_⟩
    obtain ⟨ps, rfl, hps⟩ := hsu
    have spe : spn (.two .least (.fig y) (.two .most (.fig x) e)) = (mn y (mx x (spn e).1), mn y (mx x (spn e).2)) := rfl
    rw [spe] at hps
    have hse := spn_le e
    have k1 : x ≤ mn y (mx x (spn e).1) := by
      have := le_mx x (spn e).1
      unfold mn
      split <;> omega
    have k2 : mn y (mx x (spn e).1) ≤ mn y (mx x (spn e).2) := by
      unfold mn mx
      repeat' split
      all_goals omega
    have k3 : mn y (mx x (spn e).2) ≤ y := (mn_le _ _).1
    generalize mn y (mx x (spn e).1) = lo at hps k1 k2
    generalize mn y (mx x (spn e).2) = hi at hps k2 k3
    refine ⟨ps, _, rfl, hps, rfl, _, _, rfl, _, _, rfl, rfl, ?_⟩
    have sm49 := sm48.trans sm9
    have hh9 := hh4.same sm49
    have b09 := b04.trans (But.of sm49)
    have he9 := he4.same sm49
    have xc9 := xc.same sm9
    have hl9 := sm9 _ _ hl8
    refine ⟨3, rfl, by decide, by decide, ?_⟩
    refine for_range (n := (3 : Int).toNat) (fun i σ H' => ∃ y7 y8 y9 y10 y11 y12, σ = [some (.ref a), some (.int (many : Int)), some v, some (.ref l2), some (.ref p4), some (.int lo), some (.int hi), y7, y8, y9, y10, y11, y12] ∧ But a H9 H' ∧ HandAt H' a (n + 6 + 32 * i)) ⟨none, none, none, none, none, none, rfl, But.refl _ _, hh9⟩ ?_ ?_
    · rintro i σ H10 hi' ⟨y7, y8, y9, y10, y11, y12, rfl, b10, hh10⟩
      have hi3 : i < 3 := hi'
      refine ⟨.ref a, rfl, .int (many : Int), rfl, a, many, _, rfl, by omega, hm2, hh10, by omega, fun H11 sv ss b11 hh11 hsv => ?_⟩
      refine ⟨.ref a, rfl, a, _, rfl, hh11, by omega, fun H12 rv rs b12 hh12 hrv => ⟨_, _, rfl, ?_⟩⟩
      have b12' := (b10.trans b11).trans b12
      have hsv := hsv.imp fun _ _ q => b12.sq hh11 q
      have he12 := he9.but b12' hh9
      have xc12 := xc9.but b12' hh9
      have hl12 := b12' _ _ nel2 hl9
      obtain ⟨sp, rfl, hs1, hs2, hs3, hs4, hs5⟩ := id hsv
      obtain ⟨rp, rfl, hr1, hr2, hr3⟩ := id hrv
      refine ⟨v, rfl, .ref rp, rfl, .ref sp, rfl, v, .ref rp, .ref sp, e, many, rs, ss, rfl, he12, ho, by omega, hrv, hsv, ?_⟩
      refine ⟨.ref p4, rfl, .ref rp, rfl, .ref sp, rfl, .ref p4, .ref rp, .ref sp, .two .least (.fig y) (.two .most (.fig x) e), many, rs, ss, rfl, xc12, oc, by omega, hrv, hsv, ?_⟩
      refine ⟨.ref sp, rfl, sp, ss, rfl, hs1, _, _, _, rfl, ?_⟩
      have hxy' : x * ss.sum ≤ y * ss.sum := mulr_le hxy (by omega)
      have ce : wo rs ss (.two .least (.fig y) (.two .most (.fig x) e)) = _ := cut_eq (z := wo rs ss e) hxy'
      refine ⟨.int (wo rs ss (.two .least (.fig y) (.two .most (.fig x) e))), rfl, .ref l2, rfl, l2, _, 0, _, rfl, rfl, SqL.of hl12, rfl, .int ss.sum, rfl, x, ss.sum, rfl, rfl, .inl ⟨by omega, by omega⟩, .ref l2, rfl, l2, _, 1, _, rfl, rfl, SqL.of hl12, rfl, .int ss.sum, rfl, y, ss.sum, rfl, rfl, .inl ⟨by omega, by omega⟩, .int (wo rs ss e), rfl, _, _, rfl, _, _, rfl, rfl, _, rfl, iteFF ?_ ?_⟩
      · exact congrArg (fun t => !t) (decide_eq_true (congrArg V.int ce))
      refine ⟨.ref l2, rfl, l2, _, 0, _, rfl, rfl, SqL.of hl12, rfl, .int lo, rfl, _, _, rfl, rfl, _, rfl, iteTT (decide_eq_true k1) ?_⟩
      refine ⟨.int hi, rfl, _, _, rfl, rfl, _, rfl, iteTT (decide_eq_true k2) ?_⟩
      refine ⟨.ref l2, rfl, l2, _, 1, _, rfl, rfl, SqL.of hl12, rfl, _, _, rfl, rfl, _, rfl, iteFF (by rw [decide_eq_true k3]; rfl) ?_⟩
      exact ⟨_, _, _, _, _, _, rfl, b12', hh12.le (by omega)⟩
    · rintro σ H10 ⟨y7, y8, y9, y10, y11, y12, rfl, b10, hh10⟩
      exact q _ (b09.trans b10) (hh10.le (by show n + 6 + 32 * 3 ≤ _; omega))
def spLaw (K : PySem.W.Frag) : Sp := fun vs H Q _ => ∃ (a : Addr) (ns : List Int), vs = [.ref a] ∧ SqL K H a (ns.map V.int) ∧ ns.length ≤ 63 ∧ ∀ H', Q (.bl true) H'
theorem ok_law {f : Addr} {fd : FuncData} (F : Fun K "law" "law" s_law f fd) (B : Bl mg) (c_L_hand : Cal P w K mg base 1 "_law_hand" (spHand K)) (c_L_take : Cal P w K mg base 1 "_law_take" spTake) (c_L_expression : Cal P w K mg base 7 "_law_expression" (spExpr K 3)) (c_L_moves_right : Cal P w K mg base 11 "_law_moves_right" (spMoves K)) (c_L_cut_right : Cal P w K mg base 11 "_law_cut_right" (spMoves K)) : FnOk P w K mg base CX0 12 f fd ["_law_script"] (spLaw K) := by
  refine F.ok sc_law (fun vs H Q E h => ?_) (fun cdv A outer s H vs Q E hr h => ?_)
  · obtain ⟨_, _, rfl, _⟩ := h
    rfl
  · obtain ⟨sc, ns, rfl, hS, hl, q⟩ := h
    refine ⟨_, (pss_cons (ps_for PassesOwn.never rfl (pi_range1 rfl B.range (pa_cons (pe_op op_add pe_int (pe_callB (call_min2 rfl) (by rfl) B.min (by decide +kernel) (pa_cons pe_int (pa_cons (pe_callB call_len_seq (by rfl) B.len PySem.boot_len (pa_cons (pv 0) pa_nil)) pa_nil)))) pa_nil)) (pg_name (i := 1) sc_law.nd rfl (.inl rfl)) (pss_cons (ps_set (i := 2) sc_law.nd rfl (.inl rfl) (pe_c c_L_hand hr (by omega) (by rfl) (pa_cons (pv 0) (pa_cons (pv 1) pa_nil)))) (pss_cons (ps_set (i := 3) sc_law.nd rfl (.inl rfl) (pe_op op_add pe_int (pe_c c_L_take hr (by omega) (by rfl) (pa_cons (pv 2) (pa_cons pe_int pa_nil))))) (pss_one (ps_for PassesOwn.never rfl (pi_range1 rfl B.range (pa_cons pe_int pa_nil)) (pg_name (i := 4) sc_law.nd rfl (.inl rfl)) (pss_cons (ps_set (i := 5) sc_law.nd rfl (.inl rfl) (pe_c c_L_expression hr (by omega) (by rfl) (pa_cons (pv 2) (pa_cons (pv 3) (pa_cons (pe_op op_add pe_int (pe_c c_L_take hr (by omega) (by rfl) (pa_cons (pv 2) (pa_cons pe_int pa_nil)))) (pa_cons pe_int pa_nil)))))) (pss_one (ps_if (PW.pt (pw_or (pt_not (pt_val (pe_c c_L_moves_right hr (by omega) (by rfl) (pa_cons (pv 2) (pa_cons (pv 3) (pa_cons (pv 5) pa_nil)))))) (pw_or1 (pt_not (pt_val (pe_c c_L_cut_right hr (by omega) (by rfl) (pa_cons (pv 2) (pa_cons (pv 3) (pa_cons (pv 5) pa_nil))))))))) (pss_one (ps_ret pe_bl)) pss_nil)))))))) (pss_one (ps_ret pe_bl))), ?_⟩
    refine ⟨.ref sc, rfl, sc, _, rfl, .inl hS, _, _, rfl, _, _, rfl, rfl, _, rfl, ?_⟩
    have hb : ∀ z : Int, (if z < 3 then z else 3) ≤ 3 := fun z => by split <;> omega
    have hb0 : ∀ z : Int, 0 ≤ z → 0 ≤ (if z < 3 then z else 3) := fun z hz => by split <;> omega
    have h3 := hb (((ns.map V.int).length : Nat) : Int)
    have h4 := hb0 (((ns.map V.int).length : Nat) : Int) (by omega)
    refine ⟨by omega, by omega, ?_⟩
    refine for_range (fun i σ H' => ∃ y1 y2 y3 y4 y5, σ = [some (.ref sc), y1, y2, y3, y4, y5] ∧ SqL K H' sc (ns.map V.int)) ⟨none, none, none, none, none, rfl, hS⟩ ?_ ?_
    · rintro i σ H1 hi ⟨y1, y2, y3, y4, y5, rfl, hS1⟩
      have hi4 : i < 4 := by omega
      refine ⟨.ref sc, rfl, .int (0 + (i : Int)), rfl, sc, _, ns, rfl, by omega, by omega, hS1, fun p g sd np g0 sd0 => ?_⟩
      have hh1 : HandAt (upd H1 p (.lst [.int g, .int sd, .int 0])) p 0 := ⟨g, sd, 0, upd_same, g0, sd0, by decide, by decide⟩
      have b1 : But p H1 (upd H1 p (.lst [.int g, .int sd, .int 0])) := But.put
      refine ⟨.ref p, rfl, p, 2, 0, rfl, by decide, by decide, hh1, by decide, fun H2 r b2 hh2 r0 r1 => ⟨_, _, rfl, rfl, ?_⟩⟩
      obtain ⟨r, rfl⟩ : ∃ r' : Nat, r = (r' : Int) := ⟨r.toNat, by omega⟩
      have hr2 : r < 2 := by omega
      refine ⟨2, rfl, by decide, by decide, ?_⟩
      refine for_range (n := (2 : Int).toNat) (fun t σ H' => ∃ y4 y5, σ = [some (.ref sc), some (.int (0 + (i : Int))), some (.ref p), some (.int ((2 + r : Nat) : Int)), y4, y5] ∧ But p H1 H' ∧ HandAt H' p (1 + 600 * t)) ⟨y4, y5, rfl, b1.trans b2, hh2⟩ ?_ ?_
      · rintro t σ H3 ht ⟨z4, z5, rfl, b3, hh3⟩
        have ht2 : t < 2 := ht
        refine ⟨.ref p, rfl, .int ((2 + r : Nat) : Int), rfl, .ref p, rfl, p, 2, _, rfl, by decide, by decide, hh3, by omega, fun H4 lz b4 hh4 lz0 lz1 => ⟨_, _, rfl, rfl, ?_⟩⟩
        obtain ⟨lv, rfl⟩ : ∃ l' : Nat, lz = (l' : Int) := ⟨lz.toNat, by omega⟩
        have hcl : cost (1 + lv) ≤ 84 := by
          have : lv = 0 ∨ lv = 1 := by omega
          rcases this with rfl | rfl <;> decide
        refine ⟨p, 2 + r, 1 + lv, _, rfl, by omega, by omega, by omega, hh4, by omega, fun H5 v e b5 hh5 he ho hd => ?_⟩
        refine ⟨.ref p, rfl, _, rfl, v, rfl, p, 2 + r, _, v, e, rfl, by omega, by omega, hh5, by omega, he, ho, by omega, fun H6 b6 hh6 => ⟨true, rfl, iteFF rfl ?_⟩⟩
        refine ⟨.ref p, rfl, _, rfl, v, rfl, p, 2 + r, _, v, e, rfl, by omega, by omega, hh6, by omega, he.but b6 hh5, ho, by omega, fun H7 b7 hh7 => ⟨true, rfl, iteFF rfl ?_⟩⟩
        exact ⟨_, _, rfl, (((b3.trans b4).trans b5).trans b6).trans b7, hh7.le (by omega)⟩
      · rintro σ H3 ⟨z4, z5, rfl, b3, hh3⟩
        exact ⟨_, _, _, _, _, rfl, (b3.same np).seq hS1⟩
    · rintro σ H1 ⟨y1, y2, y3, y4, y5, rfl, hS1⟩
      exact q _
end
end NG

namespace NG
open PySem PySem.Spec PyProof.Rows L2
theorem all_mk {l : PySem.W.OpenLaw} {w : World} {K : PySem.W.Frag} {h : Heap} {mg : Str → Option Value} {fa f_parts f_led_part f_side_part f_join_worths f_worth f_join_spans f_span f_L_hand f_L_take f_L_of f_L_figure f_L_leaf f_L_expression f_L_lowest f_L_shares f_L_registers f_L_around f_L_put f_L_factor f_L_moves_right f_L_cut_right f_law : Addr} (X : K.In h) (G : h.Ns mainGlobals mg) (hfa : mg "law" = some (.ref fa))
    {od_parts an_parts od_led_part an_led_part od_side_part an_side_part od_join_worths an_join_worths od_worth an_worth od_join_spans an_join_spans od_span an_span od_L_hand an_L_hand od_L_take an_L_take od_L_of an_L_of od_L_figure an_L_figure od_L_leaf an_L_leaf od_L_expression an_L_expression od_L_lowest an_L_lowest od_L_shares an_L_shares od_L_registers an_L_registers od_L_around an_L_around od_L_put an_L_put od_L_factor an_L_factor od_L_moves_right an_L_moves_right od_L_cut_right an_L_cut_right od_law an_law : Option Addr} {sl_parts sl_led_part sl_side_part sl_join_worths sl_worth sl_join_spans sl_span sl_L_hand sl_L_take sl_L_of sl_L_figure sl_L_leaf sl_L_expression sl_L_lowest sl_L_shares sl_L_registers sl_L_around sl_L_put sl_L_factor sl_L_moves_right sl_L_cut_right sl_law : Array (Option Value)} {oc_parts kV_parts dc_parts pm_parts cd_parts ct_parts oc_led_part kV_led_part dc_led_part pm_led_part cd_led_part ct_led_part oc_side_part kV_side_part dc_side_part pm_side_part cd_side_part ct_side_part oc_join_worths kV_join_worths dc_join_worths pm_join_worths cd_join_worths ct_join_worths oc_worth kV_worth dc_worth pm_worth cd_worth ct_worth oc_join_spans kV_join_spans dc_join_spans pm_join_spans cd_join_spans ct_join_spans oc_span kV_span dc_span pm_span cd_span ct_span oc_L_hand kV_L_hand dc_L_hand pm_L_hand cd_L_hand ct_L_hand oc_L_take kV_L_take dc_L_take pm_L_take cd_L_take ct_L_take oc_L_of kV_L_of dc_L_of pm_L_of cd_L_of ct_L_of oc_L_figure kV_L_figure dc_L_figure pm_L_figure cd_L_figure ct_L_figure oc_L_leaf kV_L_leaf dc_L_leaf pm_L_leaf cd_L_leaf ct_L_leaf oc_L_expression kV_L_expression dc_L_expression pm_L_expression cd_L_expression ct_L_expression oc_L_lowest kV_L_lowest dc_L_lowest pm_L_lowest cd_L_lowest ct_L_lowest oc_L_shares kV_L_shares dc_L_shares pm_L_shares cd_L_shares ct_L_shares oc_L_registers kV_L_registers dc_L_registers pm_L_registers cd_L_registers ct_L_registers oc_L_around kV_L_around dc_L_around pm_L_around cd_L_around ct_L_around oc_L_put kV_L_put dc_L_put pm_L_put cd_L_put ct_L_put oc_L_factor kV_L_factor dc_L_factor pm_L_factor cd_L_factor ct_L_factor oc_L_moves_right kV_L_moves_right dc_L_moves_right pm_L_moves_right cd_L_moves_right ct_L_moves_right oc_L_cut_right kV_L_cut_right dc_L_cut_right pm_L_cut_right cd_L_cut_right ct_L_cut_right oc_law kV_law dc_law pm_law cd_law ct_law : Value}
    (a_parts : PySem.W.nsIn K mainGlobals "parts" = some (some (.ref f_parts))) (l_parts : K.lookup f_parts = some ⟨oc_parts, od_parts, .func (PySem.W.fnOf "parts" "parts" (defArgs s_parts) (defBody s_parts) (defScope s_parts) .none kV_parts dc_parts pm_parts an_parts cd_parts ct_parts), sl_parts⟩) (c_parts : PySem.W.codeIn K cd_parts "parts" = true) (k_parts : PySem.W.keepIn K (.ref f_parts) = true)
    (a_led_part : PySem.W.nsIn K mainGlobals "led_part" = some (some (.ref f_led_part))) (l_led_part : K.lookup f_led_part = some ⟨oc_led_part, od_led_part, .func (PySem.W.fnOf "led_part" "led_part" (defArgs s_led_part) (defBody s_led_part) (defScope s_led_part) .none kV_led_part dc_led_part pm_led_part an_led_part cd_led_part ct_led_part), sl_led_part⟩) (c_led_part : PySem.W.codeIn K cd_led_part "led_part" = true) (k_led_part : PySem.W.keepIn K (.ref f_led_part) = true)
    (a_side_part : PySem.W.nsIn K mainGlobals "side_part" = some (some (.ref f_side_part))) (l_side_part : K.lookup f_side_part = some ⟨oc_side_part, od_side_part, .func (PySem.W.fnOf "side_part" "side_part" (defArgs s_side_part) (defBody s_side_part) (defScope s_side_part) .none kV_side_part dc_side_part pm_side_part an_side_part cd_side_part ct_side_part), sl_side_part⟩) (c_side_part : PySem.W.codeIn K cd_side_part "side_part" = true) (k_side_part : PySem.W.keepIn K (.ref f_side_part) = true)
    (a_join_worths : PySem.W.nsIn K mainGlobals "join_worths" = some (some (.ref f_join_worths))) (l_join_worths : K.lookup f_join_worths = some ⟨oc_join_worths, od_join_worths, .func (PySem.W.fnOf "join_worths" "join_worths" (defArgs s_join_worths) (defBody s_join_worths) (defScope s_join_worths) .none kV_join_worths dc_join_worths pm_join_worths an_join_worths cd_join_worths ct_join_worths), sl_join_worths⟩) (c_join_worths : PySem.W.codeIn K cd_join_worths "join_worths" = true) (k_join_worths : PySem.W.keepIn K (.ref f_join_worths) = true)
    (a_worth : PySem.W.nsIn K mainGlobals "worth" = some (some (.ref f_worth))) (l_worth : K.lookup f_worth = some ⟨oc_worth, od_worth, .func (PySem.W.fnOf "worth" "worth" (defArgs s_worth) (defBody s_worth) (defScope s_worth) .none kV_worth dc_worth pm_worth an_worth cd_worth ct_worth), sl_worth⟩) (c_worth : PySem.W.codeIn K cd_worth "worth" = true) (k_worth : PySem.W.keepIn K (.ref f_worth) = true)
    (a_join_spans : PySem.W.nsIn K mainGlobals "join_spans" = some (some (.ref f_join_spans))) (l_join_spans : K.lookup f_join_spans = some ⟨oc_join_spans, od_join_spans, .func (PySem.W.fnOf "join_spans" "join_spans" (defArgs s_join_spans) (defBody s_join_spans) (defScope s_join_spans) .none kV_join_spans dc_join_spans pm_join_spans an_join_spans cd_join_spans ct_join_spans), sl_join_spans⟩) (c_join_spans : PySem.W.codeIn K cd_join_spans "join_spans" = true) (k_join_spans : PySem.W.keepIn K (.ref f_join_spans) = true)
    (a_span : PySem.W.nsIn K mainGlobals "span" = some (some (.ref f_span))) (l_span : K.lookup f_span = some ⟨oc_span, od_span, .func (PySem.W.fnOf "span" "span" (defArgs s_span) (defBody s_span) (defScope s_span) .none kV_span dc_span pm_span an_span cd_span ct_span), sl_span⟩) (c_span : PySem.W.codeIn K cd_span "span" = true) (k_span : PySem.W.keepIn K (.ref f_span) = true)
    (a_L_hand : PySem.W.nsIn K mainGlobals "_law_hand" = some (some (.ref f_L_hand))) (l_L_hand : K.lookup f_L_hand = some ⟨oc_L_hand, od_L_hand, .func (PySem.W.fnOf "_law_hand" "_law_hand" (defArgs s_L_hand) (defBody s_L_hand) (defScope s_L_hand) .none kV_L_hand dc_L_hand pm_L_hand an_L_hand cd_L_hand ct_L_hand), sl_L_hand⟩) (c_L_hand : PySem.W.codeIn K cd_L_hand "_law_hand" = true) (k_L_hand : PySem.W.keepIn K (.ref f_L_hand) = true)
    (a_L_take : PySem.W.nsIn K mainGlobals "_law_take" = some (some (.ref f_L_take))) (l_L_take : K.lookup f_L_take = some ⟨oc_L_take, od_L_take, .func (PySem.W.fnOf "_law_take" "_law_take" (defArgs s_L_take) (defBody s_L_take) (defScope s_L_take) .none kV_L_take dc_L_take pm_L_take an_L_take cd_L_take ct_L_take), sl_L_take⟩) (c_L_take : PySem.W.codeIn K cd_L_take "_law_take" = true) (k_L_take : PySem.W.keepIn K (.ref f_L_take) = true)
    (a_L_of : PySem.W.nsIn K mainGlobals "_law_of" = some (some (.ref f_L_of))) (l_L_of : K.lookup f_L_of = some ⟨oc_L_of, od_L_of, .func (PySem.W.fnOf "_law_of" "_law_of" (defArgs s_L_of) (defBody s_L_of) (defScope s_L_of) .none kV_L_of dc_L_of pm_L_of an_L_of cd_L_of ct_L_of), sl_L_of⟩) (c_L_of : PySem.W.codeIn K cd_L_of "_law_of" = true) (k_L_of : PySem.W.keepIn K (.ref f_L_of) = true)
    (a_L_figure : PySem.W.nsIn K mainGlobals "_law_figure" = some (some (.ref f_L_figure))) (l_L_figure : K.lookup f_L_figure = some ⟨oc_L_figure, od_L_figure, .func (PySem.W.fnOf "_law_figure" "_law_figure" (defArgs s_L_figure) (defBody s_L_figure) (defScope s_L_figure) .none kV_L_figure dc_L_figure pm_L_figure an_L_figure cd_L_figure ct_L_figure), sl_L_figure⟩) (c_L_figure : PySem.W.codeIn K cd_L_figure "_law_figure" = true) (k_L_figure : PySem.W.keepIn K (.ref f_L_figure) = true)
    (a_L_leaf : PySem.W.nsIn K mainGlobals "_law_leaf" = some (some (.ref f_L_leaf))) (l_L_leaf : K.lookup f_L_leaf = some ⟨oc_L_leaf, od_L_leaf, .func (PySem.W.fnOf "_law_leaf" "_law_leaf" (defArgs s_L_leaf) (defBody s_L_leaf) (defScope s_L_leaf) .none kV_L_leaf dc_L_leaf pm_L_leaf an_L_leaf cd_L_leaf ct_L_leaf), sl_L_leaf⟩) (c_L_leaf : PySem.W.codeIn K cd_L_leaf "_law_leaf" = true) (k_L_leaf : PySem.W.keepIn K (.ref f_L_leaf) = true)
    (a_L_expression : PySem.W.nsIn K mainGlobals "_law_expression" = some (some (.ref f_L_expression))) (l_L_expression : K.lookup f_L_expression = some ⟨oc_L_expression, od_L_expression, .func (PySem.W.fnOf "_law_expression" "_law_expression" (defArgs s_L_expression) (defBody s_L_expression) (defScope s_L_expression) .none kV_L_expression dc_L_expression pm_L_expression an_L_expression cd_L_expression ct_L_expression), sl_L_expression⟩) (c_L_expression : PySem.W.codeIn K cd_L_expression "_law_expression" = true) (k_L_expression : PySem.W.keepIn K (.ref f_L_expression) = true)
    (a_L_lowest : PySem.W.nsIn K mainGlobals "_law_lowest" = some (some (.ref f_L_lowest))) (l_L_lowest : K.lookup f_L_lowest = some ⟨oc_L_lowest, od_L_lowest, .func (PySem.W.fnOf "_law_lowest" "_law_lowest" (defArgs s_L_lowest) (defBody s_L_lowest) (defScope s_L_lowest) .none kV_L_lowest dc_L_lowest pm_L_lowest an_L_lowest cd_L_lowest ct_L_lowest), sl_L_lowest⟩) (c_L_lowest : PySem.W.codeIn K cd_L_lowest "_law_lowest" = true) (k_L_lowest : PySem.W.keepIn K (.ref f_L_lowest) = true)
    (a_L_shares : PySem.W.nsIn K mainGlobals "_law_shares" = some (some (.ref f_L_shares))) (l_L_shares : K.lookup f_L_shares = some ⟨oc_L_shares, od_L_shares, .func (PySem.W.fnOf "_law_shares" "_law_shares" (defArgs s_L_shares) (defBody s_L_shares) (defScope s_L_shares) .none kV_L_shares dc_L_shares pm_L_shares an_L_shares cd_L_shares ct_L_shares), sl_L_shares⟩) (c_L_shares : PySem.W.codeIn K cd_L_shares "_law_shares" = true) (k_L_shares : PySem.W.keepIn K (.ref f_L_shares) = true)
    (a_L_registers : PySem.W.nsIn K mainGlobals "_law_registers" = some (some (.ref f_L_registers))) (l_L_registers : K.lookup f_L_registers = some ⟨oc_L_registers, od_L_registers, .func (PySem.W.fnOf "_law_registers" "_law_registers" (defArgs s_L_registers) (defBody s_L_registers) (defScope s_L_registers) .none kV_L_registers dc_L_registers pm_L_registers an_L_registers cd_L_registers ct_L_registers), sl_L_registers⟩) (c_L_registers : PySem.W.codeIn K cd_L_registers "_law_registers" = true) (k_L_registers : PySem.W.keepIn K (.ref f_L_registers) = true)
    (a_L_around : PySem.W.nsIn K mainGlobals "_law_around" = some (some (.ref f_L_around))) (l_L_around : K.lookup f_L_around = some ⟨oc_L_around, od_L_around, .func (PySem.W.fnOf "_law_around" "_law_around" (defArgs s_L_around) (defBody s_L_around) (defScope s_L_around) .none kV_L_around dc_L_around pm_L_around an_L_around cd_L_around ct_L_around), sl_L_around⟩) (c_L_around : PySem.W.codeIn K cd_L_around "_law_around" = true) (k_L_around : PySem.W.keepIn K (.ref f_L_around) = true)
    (a_L_put : PySem.W.nsIn K mainGlobals "_law_put" = some (some (.ref f_L_put))) (l_L_put : K.lookup f_L_put = some ⟨oc_L_put, od_L_put, .func (PySem.W.fnOf "_law_put" "_law_put" (defArgs s_L_put) (defBody s_L_put) (defScope s_L_put) .none kV_L_put dc_L_put pm_L_put an_L_put cd_L_put ct_L_put), sl_L_put⟩) (c_L_put : PySem.W.codeIn K cd_L_put "_law_put" = true) (k_L_put : PySem.W.keepIn K (.ref f_L_put) = true)
    (a_L_factor : PySem.W.nsIn K mainGlobals "_law_factor" = some (some (.ref f_L_factor))) (l_L_factor : K.lookup f_L_factor = some ⟨oc_L_factor, od_L_factor, .func (PySem.W.fnOf "_law_factor" "_law_factor" (defArgs s_L_factor) (defBody s_L_factor) (defScope s_L_factor) .none kV_L_factor dc_L_factor pm_L_factor an_L_factor cd_L_factor ct_L_factor), sl_L_factor⟩) (c_L_factor : PySem.W.codeIn K cd_L_factor "_law_factor" = true) (k_L_factor : PySem.W.keepIn K (.ref f_L_factor) = true)
    (a_L_moves_right : PySem.W.nsIn K mainGlobals "_law_moves_right" = some (some (.ref f_L_moves_right))) (l_L_moves_right : K.lookup f_L_moves_right = some ⟨oc_L_moves_right, od_L_moves_right, .func (PySem.W.fnOf "_law_moves_right" "_law_moves_right" (defArgs s_L_moves_right) (defBody s_L_moves_right) (defScope s_L_moves_right) .none kV_L_moves_right dc_L_moves_right pm_L_moves_right an_L_moves_right cd_L_moves_right ct_L_moves_right), sl_L_moves_right⟩) (c_L_moves_right : PySem.W.codeIn K cd_L_moves_right "_law_moves_right" = true) (k_L_moves_right : PySem.W.keepIn K (.ref f_L_moves_right) = true)
    (a_L_cut_right : PySem.W.nsIn K mainGlobals "_law_cut_right" = some (some (.ref f_L_cut_right))) (l_L_cut_right : K.lookup f_L_cut_right = some ⟨oc_L_cut_right, od_L_cut_right, .func (PySem.W.fnOf "_law_cut_right" "_law_cut_right" (defArgs s_L_cut_right) (defBody s_L_cut_right) (defScope s_L_cut_right) .none kV_L_cut_right dc_L_cut_right pm_L_cut_right an_L_cut_right cd_L_cut_right ct_L_cut_right), sl_L_cut_right⟩) (c_L_cut_right : PySem.W.codeIn K cd_L_cut_right "_law_cut_right" = true) (k_L_cut_right : PySem.W.keepIn K (.ref f_L_cut_right) = true)
    (a_law : PySem.W.nsIn K mainGlobals "law" = some (some (.ref f_law))) (l_law : K.lookup f_law = some ⟨oc_law, od_law, .func (PySem.W.fnOf "law" "law" (defArgs s_law) (defBody s_law) (defScope s_law) .none kV_law dc_law pm_law an_law cd_law ct_law), sl_law⟩) (c_law : PySem.W.codeIn K cd_law "law" = true) (k_law : PySem.W.keepIn K (.ref f_law) = true)
    {d_S : Addr} {es_S : Array DictEntry} {n_S : Nat} (a_S : PySem.W.nsIn K mainGlobals "SHAPES" = some (some (.ref d_S))) (l_S : K.lookup d_S = some ⟨.type "dict", none, .dict es_S n_S, #[]⟩) (k_S : PySem.W.KeysLit w.params es_S.toList)
    {q_fig : Addr} {tod_fig : Option Addr} {its_fig : Array Value} {tm_fig : Nat} {tsl_fig : Array (Option Value)} (n_fig : PySem.W.nsIn K d_S "fig" = some (some (.ref q_fig))) (t_fig : K.lookup q_fig = some ⟨.type "tuple", tod_fig, .seq its_fig tm_fig, tsl_fig⟩) (v_fig : Vals [.str "figure"] its_fig.toList)
    {q_reg : Addr} {tod_reg : Option Addr} {its_reg : Array Value} {tm_reg : Nat} {tsl_reg : Array (Option Value)} (n_reg : PySem.W.nsIn K d_S "reg" = some (some (.ref q_reg))) (t_reg : K.lookup q_reg = some ⟨.type "tuple", tod_reg, .seq its_reg tm_reg, tsl_reg⟩) (v_reg : Vals [.str "place"] its_reg.toList)
    {q_share : Addr} {tod_share : Option Addr} {its_share : Array Value} {tm_share : Nat} {tsl_share : Array (Option Value)} (n_share : PySem.W.nsIn K d_S "share" = some (some (.ref q_share))) (t_share : K.lookup q_share = some ⟨.type "tuple", tod_share, .seq its_share tm_share, tsl_share⟩) (v_share : Vals [.str "sign"] its_share.toList)
    {q_sum : Addr} {tod_sum : Option Addr} {its_sum : Array Value} {tm_sum : Nat} {tsl_sum : Array (Option Value)} (n_sum : PySem.W.nsIn K d_S "sum" = some (some (.ref q_sum))) (t_sum : K.lookup q_sum = some ⟨.type "tuple", tod_sum, .seq its_sum tm_sum, tsl_sum⟩) (v_sum : Vals [.str "part", .str "part"] its_sum.toList)
    {q_less : Addr} {tod_less : Option Addr} {its_less : Array Value} {tm_less : Nat} {tsl_less : Array (Option Value)} (n_less : PySem.W.nsIn K d_S "less" = some (some (.ref q_less))) (t_less : K.lookup q_less = some ⟨.type "tuple", tod_less, .seq its_less tm_less, tsl_less⟩) (v_less : Vals [.str "part", .str "part"] its_less.toList)
    {q_times : Addr} {tod_times : Option Addr} {its_times : Array Value} {tm_times : Nat} {tsl_times : Array (Option Value)} (n_times : PySem.W.nsIn K d_S "times" = some (some (.ref q_times))) (t_times : K.lookup q_times = some ⟨.type "tuple", tod_times, .seq its_times tm_times, tsl_times⟩) (v_times : Vals [.str "factor", .str "part"] its_times.toList)
    {q_by : Addr} {tod_by : Option Addr} {its_by : Array Value} {tm_by : Nat} {tsl_by : Array (Option Value)} (n_by : PySem.W.nsIn K d_S "by" = some (some (.ref q_by))) (t_by : K.lookup q_by = some ⟨.type "tuple", tod_by, .seq its_by tm_by, tsl_by⟩) (v_by : Vals [.str "place", .str "part"] its_by.toList)
    {q_least : Addr} {tod_least : Option Addr} {its_least : Array Value} {tm_least : Nat} {tsl_least : Array (Option Value)} (n_least : PySem.W.nsIn K d_S "least" = some (some (.ref q_least))) (t_least : K.lookup q_least = some ⟨.type "tuple", tod_least, .seq its_least tm_least, tsl_least⟩) (v_least : Vals [.str "part", .str "part"] its_least.toList)
    {q_most : Addr} {tod_most : Option Addr} {its_most : Array Value} {tm_most : Nat} {tsl_most : Array (Option Value)} (n_most : PySem.W.nsIn K d_S "most" = some (some (.ref q_most))) (t_most : K.lookup q_most = some ⟨.type "tuple", tod_most, .seq its_most tm_most, tsl_most⟩) (v_most : Vals [.str "part", .str "part"] its_most.toList)
    {q_when : Addr} {tod_when : Option Addr} {its_when : Array Value} {tm_when : Nat} {tsl_when : Array (Option Value)} (n_when : PySem.W.nsIn K d_S "when" = some (some (.ref q_when))) (t_when : K.lookup q_when = some ⟨.type "tuple", tod_when, .seq its_when tm_when, tsl_when⟩) (v_when : Vals [.str "place", .str "figure", .str "part", .str "part"] its_when.toList)
    {q_where : Addr} {tod_where : Option Addr} {its_where : Array Value} {tm_where : Nat} {tsl_where : Array (Option Value)} (n_where : PySem.W.nsIn K d_S "where" = some (some (.ref q_where))) (t_where : K.lookup q_where = some ⟨.type "tuple", tod_where, .seq its_where tm_where, tsl_where⟩) (v_where : Vals [.str "sign", .str "line", .str "part", .str "part"] its_where.toList)
    (z_len : PySem.W.nsIn K mainGlobals "len" = some none)
    (z_sum : PySem.W.nsIn K mainGlobals "sum" = some none)
    (z_max : PySem.W.nsIn K mainGlobals "max" = some none)
    (z_min : PySem.W.nsIn K mainGlobals "min" = some none)
    (z_abs : PySem.W.nsIn K mainGlobals "abs" = some none)
    (z_int : PySem.W.nsIn K mainGlobals "int" = some none)
    (z_tuple : PySem.W.nsIn K mainGlobals "tuple" = some none)
    (z_range : PySem.W.nsIn K mainGlobals "range" = some none)
    (z_sorted : PySem.W.nsIn K mainGlobals "sorted" = some none)
    (z_zip : PySem.W.nsIn K mainGlobals "zip" = some none)
    (z_isinstance : PySem.W.nsIn K mainGlobals "isinstance" = some none)
    (z_list : PySem.W.nsIn K mainGlobals "list" = some none)
    (z_all : PySem.W.nsIn K mainGlobals "all" = some none)
    (z_repr : PySem.W.nsIn K mainGlobals "repr" = some none)
    (z_str : PySem.W.nsIn K mainGlobals "str" = some none)
    (z_enumerate : PySem.W.nsIn K mainGlobals "enumerate" = some none)
    : ∃ fd : FuncData, (∀ (s : Shared) (v : Value), BindsTo s fd ⟨[v], []⟩ [("_law_script", v)]) ∧ ∀ base : Heap, K.In base → base.Ns mainGlobals mg → FnOk l.prog w K mg base CX0 12 fa fd ["_law_script"] (spLaw K) := by
  have e := hfa.symm.trans (PySem.W.mg_of X G a_law)
  cases e
  have F_parts := fun_mk (st := s_parts) l_parts c_parts k_parts
  have g_parts := PySem.W.mg_of X G a_parts
  have b_parts := F_parts.binds (ps := ["expression"]) fun _ _ _ _ _ _ us hl => match us, hl with | [_], _ => rfl
  have F_led_part := fun_mk (st := s_led_part) l_led_part c_led_part k_led_part
  have g_led_part := PySem.W.mg_of X G a_led_part
  have b_led_part := F_led_part.binds (ps := ["expression", "registers"]) fun _ _ _ _ _ _ us hl => match us, hl with | [_, _], _ => rfl
  have F_side_part := fun_mk (st := s_side_part) l_side_part c_side_part k_side_part
  have g_side_part := PySem.W.mg_of X G a_side_part
  have b_side_part := F_side_part.binds (ps := ["expression", "shares"]) fun _ _ _ _ _ _ us hl => match us, hl with | [_, _], _ => rfl
  have F_join_worths := fun_mk (st := s_join_worths) l_join_worths c_join_worths k_join_worths
  have g_join_worths := PySem.W.mg_of X G a_join_worths
  have b_join_worths := F_join_worths.binds (ps := ["word", "first", "second"]) fun _ _ _ _ _ _ us hl => match us, hl with | [_, _, _], _ => rfl
  have F_worth := fun_mk (st := s_worth) l_worth c_worth k_worth
  have g_worth := PySem.W.mg_of X G a_worth
  have b_worth := F_worth.binds (ps := ["expression", "registers", "shares"]) fun _ _ _ _ _ _ us hl => match us, hl with | [_, _, _], _ => rfl
  have F_join_spans := fun_mk (st := s_join_spans) l_join_spans c_join_spans k_join_spans
  have g_join_spans := PySem.W.mg_of X G a_join_spans
  have b_join_spans := F_join_spans.binds (ps := ["word", "first", "second"]) fun _ _ _ _ _ _ us hl => match us, hl with | [_, _, _], _ => rfl
  have F_span := fun_mk (st := s_span) l_span c_span k_span
  have g_span := PySem.W.mg_of X G a_span
  have b_span := F_span.binds (ps := ["expression"]) fun _ _ _ _ _ _ us hl => match us, hl with | [_], _ => rfl
  have F_L_hand := fun_mk (st := s_L_hand) l_L_hand c_L_hand k_L_hand
  have g_L_hand := PySem.W.mg_of X G a_L_hand
  have b_L_hand := F_L_hand.binds (ps := ["_law_script", "_law_k"]) fun _ _ _ _ _ _ us hl => match us, hl with | [_, _], _ => rfl
  have F_L_take := fun_mk (st := s_L_take) l_L_take c_L_take k_L_take
  have g_L_take := PySem.W.mg_of X G a_L_take
  have b_L_take := F_L_take.binds (ps := ["_law_hand_here", "_law_many"]) fun _ _ _ _ _ _ us hl => match us, hl with | [_, _], _ => rfl
  have F_L_of := fun_mk (st := s_L_of) l_L_of c_L_of k_L_of
  have g_L_of := PySem.W.mg_of X G a_L_of
  have b_L_of := F_L_of.binds (ps := ["_law_hand_here", "_law_some"]) fun _ _ _ _ _ _ us hl => match us, hl with | [_, _], _ => rfl
  have F_L_figure := fun_mk (st := s_L_figure) l_L_figure c_L_figure k_L_figure
  have g_L_figure := PySem.W.mg_of X G a_L_figure
  have b_L_figure := F_L_figure.binds (ps := ["_law_hand_here"]) fun _ _ _ _ _ _ us hl => match us, hl with | [_], _ => rfl
  have F_L_leaf := fun_mk (st := s_L_leaf) l_L_leaf c_L_leaf k_L_leaf
  have g_L_leaf := PySem.W.mg_of X G a_L_leaf
  have b_L_leaf := F_L_leaf.binds (ps := ["_law_hand_here", "_law_many"]) fun _ _ _ _ _ _ us hl => match us, hl with | [_, _], _ => rfl
  have F_L_expression := fun_mk (st := s_L_expression) l_L_expression c_L_expression k_L_expression
  have g_L_expression := PySem.W.mg_of X G a_L_expression
  have b_L_expression := F_L_expression.binds (ps := ["_law_hand_here", "_law_many", "_law_level", "_law_jumps"]) fun _ _ _ _ _ _ us hl => match us, hl with | [_, _, _, _], _ => rfl
  have F_L_lowest := fun_mk (st := s_L_lowest) l_L_lowest c_L_lowest k_L_lowest
  have g_L_lowest := PySem.W.mg_of X G a_L_lowest
  have b_L_lowest := F_L_lowest.binds (ps := ["_law_row"]) fun _ _ _ _ _ _ us hl => match us, hl with | [_], _ => rfl
  have F_L_shares := fun_mk (st := s_L_shares) l_L_shares c_L_shares k_L_shares
  have g_L_shares := PySem.W.mg_of X G a_L_shares
  have b_L_shares := F_L_shares.binds (ps := ["_law_hand_here", "_law_many"]) fun _ _ _ _ _ _ us hl => match us, hl with | [_, _], _ => rfl
  have F_L_registers := fun_mk (st := s_L_registers) l_L_registers c_L_registers k_L_registers
  have g_L_registers := PySem.W.mg_of X G a_L_registers
  have b_L_registers := F_L_registers.binds (ps := ["_law_hand_here"]) fun _ _ _ _ _ _ us hl => match us, hl with | [_], _ => rfl
  have F_L_around := fun_mk (st := s_L_around) l_L_around c_L_around k_L_around
  have g_L_around := PySem.W.mg_of X G a_L_around
  have b_L_around := F_L_around.binds (ps := ["_law_hand_here", "_law_many"]) fun _ _ _ _ _ _ us hl => match us, hl with | [_, _], _ => rfl
  have F_L_put := fun_mk (st := s_L_put) l_L_put c_L_put k_L_put
  have g_L_put := PySem.W.mg_of X G a_L_put
  have b_L_put := F_L_put.binds (ps := ["_law_around_here", "_law_expression_here"]) fun _ _ _ _ _ _ us hl => match us, hl with | [_, _], _ => rfl
  have F_L_factor := fun_mk (st := s_L_factor) l_L_factor c_L_factor k_L_factor
  have g_L_factor := PySem.W.mg_of X G a_L_factor
  have b_L_factor := F_L_factor.binds (ps := ["_law_around_here", "_law_registers_here"]) fun _ _ _ _ _ _ us hl => match us, hl with | [_, _], _ => rfl
  have F_L_moves_right := fun_mk (st := s_L_moves_right) l_L_moves_right c_L_moves_right k_L_moves_right
  have g_L_moves_right := PySem.W.mg_of X G a_L_moves_right
  have b_L_moves_right := F_L_moves_right.binds (ps := ["_law_hand_here", "_law_many", "_law_expression_here"]) fun _ _ _ _ _ _ us hl => match us, hl with | [_, _, _], _ => rfl
  have F_L_cut_right := fun_mk (st := s_L_cut_right) l_L_cut_right c_L_cut_right k_L_cut_right
  have g_L_cut_right := PySem.W.mg_of X G a_L_cut_right
  have b_L_cut_right := F_L_cut_right.binds (ps := ["_law_hand_here", "_law_many", "_law_expression_here"]) fun _ _ _ _ _ _ us hl => match us, hl with | [_, _, _], _ => rfl
  have F_law := fun_mk (st := s_law) l_law c_law k_law
  have g_law := PySem.W.mg_of X G a_law
  have B : Bl mg := ⟨PySem.W.mg_none_of X G z_len, PySem.W.mg_none_of X G z_sum, PySem.W.mg_none_of X G z_max, PySem.W.mg_none_of X G z_min, PySem.W.mg_none_of X G z_abs, PySem.W.mg_none_of X G z_int, PySem.W.mg_none_of X G z_tuple, PySem.W.mg_none_of X G z_range, PySem.W.mg_none_of X G z_sorted, PySem.W.mg_none_of X G z_zip, PySem.W.mg_none_of X G z_isinstance, PySem.W.mg_none_of X G z_list, PySem.W.mg_none_of X G z_all, PySem.W.mg_none_of X G z_repr, PySem.W.mg_none_of X G z_str, PySem.W.mg_none_of X G z_enumerate⟩
  have mg_SHAPES := PySem.W.mg_of X G a_S
  have hSh : Shapes K w d_S := by
    have mk : ∀ (x : Str) (q : Addr) (od : Option Addr) (its : Array Value) (m : Nat) (sl : Array (Option Value)) (ks : List Str), ks.length ≤ 4 → PySem.W.nsIn K d_S x = some (some (.ref q)) → K.lookup q = some ⟨.type "tuple", od, .seq its m, sl⟩ → Vals (ks.map V.str) its.toList → ∃ q, KDct K w d_S x (.ref q) ∧ ∀ H, SqT K H q (ks.map V.str) := fun x q od its m sl ks hk h1 h2 h3 => ⟨q, ⟨es_S, n_S, _, l_S, k_S, h1, rfl⟩, fun H => .inr ⟨_, its, m, h2, rfl, rfl, by
      have h := h3.length
      have e2 : its.toList.length = its.size := Array.length_toList
      have e3 : (ks.map V.str).length = ks.length := List.length_map _
      exact Nat.le_of_lt (small1000 (by omega)), h3⟩⟩
    intro e
    cases e with
    | fig _ => exact mk _ _ _ _ _ _ ["figure"] (by decide) n_fig t_fig v_fig
    | reg _ => exact mk _ _ _ _ _ _ ["place"] (by decide) n_reg t_reg v_reg
    | share _ => exact mk _ _ _ _ _ _ ["sign"] (by decide) n_share t_share v_share
    | times _ _ => exact mk _ _ _ _ _ _ ["factor", "part"] (by decide) n_times t_times v_times
    | «by» _ _ => exact mk _ _ _ _ _ _ ["place", "part"] (by decide) n_by t_by v_by
    | when _ _ _ _ => exact mk _ _ _ _ _ _ ["place", "figure", "part", "part"] (by decide) n_when t_when v_when
    | whr _ _ _ _ => exact mk _ _ _ _ _ _ ["sign", "line", "part", "part"] (by decide) n_where t_where v_where
    | two o _ _ =>
      cases o with
      | sum => exact mk _ _ _ _ _ _ ["part", "part"] (by decide) n_sum t_sum v_sum
      | less => exact mk _ _ _ _ _ _ ["part", "part"] (by decide) n_less t_less v_less
      | least => exact mk _ _ _ _ _ _ ["part", "part"] (by decide) n_least t_least v_least
      | most => exact mk _ _ _ _ _ _ ["part", "part"] (by decide) n_most t_most v_most
  refine ⟨PySem.W.fnOf "law" "law" (defArgs s_law) (defBody s_law) (defScope s_law) .none kV_law dc_law pm_law an_law cd_law ct_law, fun s v => .of_eq rfl, fun base _ _ => ?_⟩
  have c_hand := ok_hand (P := l.prog) (w := w) (base := base) F_L_hand g_L_hand b_L_hand B
  have c_take := ok_take (P := l.prog) (w := w) (base := base) F_L_take g_L_take b_L_take
  have c_of := ok_of F_L_of g_L_of b_L_of B c_take
  have c_figure := ok_figure F_L_figure g_L_figure b_L_figure B c_take c_of
  have c_leaf := ok_leaf F_L_leaf g_L_leaf b_L_leaf B c_take c_figure
  have c_expr := ok_expr F_L_expression g_L_expression b_L_expression B c_take c_of c_figure c_leaf 3
  have c_low := ok_low (P := l.prog) (w := w) (base := base) F_L_lowest g_L_lowest b_L_lowest B
  have c_shares := ok_shares F_L_shares g_L_shares b_L_shares B c_take c_of c_low
  have c_regs := ok_regs F_L_registers g_L_registers b_L_registers B c_figure
  have c_led := ok_led (P := l.prog) (w := w) (base := base) F_led_part g_led_part b_led_part B
  have c_side := ok_side (P := l.prog) (w := w) (base := base) F_side_part g_side_part b_side_part B
  have c_join := ok_joinW (P := l.prog) (w := w) (base := base) F_join_worths g_join_worths b_join_worths B
  have c_worth := ok_worth F_worth g_worth b_worth B c_led c_side c_join 8
  have c_parts := ok_parts (P := l.prog) (w := w) (base := base) F_parts g_parts b_parts B mg_SHAPES hSh
  have c_joinS := ok_joinS (P := l.prog) (w := w) (base := base) F_join_spans g_join_spans b_join_spans B
  have c_span := ok_span F_span g_span b_span B c_parts c_joinS 7
  have c_put := ok_put (P := l.prog) (w := w) (base := base) F_L_put g_L_put b_L_put B
  have c_fac := fun many => ok_fac (P := l.prog) (w := w) (base := base) F_L_factor g_L_factor b_L_factor B many
  have c_around := ok_around F_L_around g_L_around b_L_around B c_take c_of c_figure c_leaf
  have c_moves := ok_moves F_L_moves_right g_L_moves_right b_L_moves_right B c_take c_of c_around c_put c_span c_shares c_regs c_worth c_fac
  have c_cut := ok_cut F_L_cut_right g_L_cut_right b_L_cut_right B c_figure c_span c_shares c_regs c_worth
  exact ok_law F_law B c_hand c_take c_expr c_moves c_cut
end NG
open PySem PySem.W PyProof.Rows
set_option maxHeartbeats 0 in
theorem PySem.Challenge.cw_nonegrowsrich_k12_whole_a_greater_part_p_holds : PySem.Challenge.rw_nonegrowsrich_k12_whole_a_greater_part_p.Holds := by
  w_on; o_law; k_head; (case hw => w_witness2)
  k_fill
  refine L2.walk_of (l := PySem.Challenge.rw_nonegrowsrich_k12_whole_a_greater_part_p) (n := 63) (k := 12) (x := "_law_script") (CX := fun _ => L2.CX0) (sp := fun w => NG.spLaw _) rfl (by decide) rfl ⟨rfl, by decide, by decide⟩ (fun w h Y => PySem.W.kIn_of Y) ?F (fun _ _ a ns hl _ hS => ⟨a, ns, rfl, hS, hl, fun _ => rfl⟩) (fun _ _ _ _ _ h => h)
  case F =>
    intro w mg fa h KX G hmg
    refine' NG.all_mk KX G hmg ?a_parts ?l_parts ?c_parts ?k_parts ?a_led_part ?l_led_part ?c_led_part ?k_led_part ?a_side_part ?l_side_part ?c_side_part ?k_side_part ?a_join_worths ?l_join_worths ?c_join_worths ?k_join_worths ?a_worth ?l_worth ?c_worth ?k_worth ?a_join_spans ?l_join_spans ?c_join_spans ?k_join_spans ?a_span ?l_span ?c_span ?k_span ?a_L_hand ?l_L_hand ?c_L_hand ?k_L_hand ?a_L_take ?l_L_take ?c_L_take ?k_L_take ?a_L_of ?l_L_of ?c_L_of ?k_L_of ?a_L_figure ?l_L_figure ?c_L_figure ?k_L_figure ?a_L_leaf ?l_L_leaf ?c_L_leaf ?k_L_leaf ?a_L_expression ?l_L_expression ?c_L_expression ?k_L_expression ?a_L_lowest ?l_L_lowest ?c_L_lowest ?k_L_lowest ?a_L_shares ?l_L_shares ?c_L_shares ?k_L_shares ?a_L_registers ?l_L_registers ?c_L_registers ?k_L_registers ?a_L_around ?l_L_around ?c_L_around ?k_L_around ?a_L_put ?l_L_put ?c_L_put ?k_L_put ?a_L_factor ?l_L_factor ?c_L_factor ?k_L_factor ?a_L_moves_right ?l_L_moves_right ?c_L_moves_right ?k_L_moves_right ?a_L_cut_right ?l_L_cut_right ?c_L_cut_right ?k_L_cut_right ?a_law ?l_law ?c_law ?k_law ?a_S ?l_S ?k_S ?n_fig ?t_fig ?v_fig ?n_reg ?t_reg ?v_reg ?n_share ?t_share ?v_share ?n_sum ?t_sum ?v_sum ?n_less ?t_less ?v_less ?n_times ?t_times ?v_times ?n_by ?t_by ?v_by ?n_least ?t_least ?v_least ?n_most ?t_most ?v_most ?n_when ?t_when ?v_when ?n_where ?t_where ?v_where ?z_len ?z_sum ?z_max ?z_min ?z_abs ?z_int ?z_tuple ?z_range ?z_sorted ?z_zip ?z_isinstance ?z_list ?z_all ?z_repr ?z_str ?z_enumerate
    (case a_parts => k_is); (case l_parts => k_is); (case c_parts => k_is); (case k_parts => k_is); (case a_led_part => k_is); (case l_led_part => k_is); (case c_led_part => k_is); (case k_led_part => k_is); (case a_side_part => k_is); (case l_side_part => k_is); (case c_side_part => k_is); (case k_side_part => k_is); (case a_join_worths => k_is); (case l_join_worths => k_is); (case c_join_worths => k_is); (case k_join_worths => k_is); (case a_worth => k_is); (case l_worth => k_is); (case c_worth => k_is); (case k_worth => k_is); (case a_join_spans => k_is); (case l_join_spans => k_is); (case c_join_spans => k_is); (case k_join_spans => k_is); (case a_span => k_is); (case l_span => k_is); (case c_span => k_is); (case k_span => k_is); (case a_L_hand => k_is); (case l_L_hand => k_is); (case c_L_hand => k_is); (case k_L_hand => k_is); (case a_L_take => k_is); (case l_L_take => k_is); (case c_L_take => k_is); (case k_L_take => k_is); (case a_L_of => k_is); (case l_L_of => k_is); (case c_L_of => k_is); (case k_L_of => k_is); (case a_L_figure => k_is); (case l_L_figure => k_is); (case c_L_figure => k_is); (case k_L_figure => k_is); (case a_L_leaf => k_is); (case l_L_leaf => k_is); (case c_L_leaf => k_is); (case k_L_leaf => k_is); (case a_L_expression => k_is); (case l_L_expression => k_is); (case c_L_expression => k_is); (case k_L_expression => k_is); (case a_L_lowest => k_is); (case l_L_lowest => k_is); (case c_L_lowest => k_is); (case k_L_lowest => k_is); (case a_L_shares => k_is); (case l_L_shares => k_is); (case c_L_shares => k_is); (case k_L_shares => k_is); (case a_L_registers => k_is); (case l_L_registers => k_is); (case c_L_registers => k_is); (case k_L_registers => k_is); (case a_L_around => k_is); (case l_L_around => k_is); (case c_L_around => k_is); (case k_L_around => k_is); (case a_L_put => k_is); (case l_L_put => k_is); (case c_L_put => k_is); (case k_L_put => k_is); (case a_L_factor => k_is); (case l_L_factor => k_is); (case c_L_factor => k_is); (case k_L_factor => k_is); (case a_L_moves_right => k_is); (case l_L_moves_right => k_is); (case c_L_moves_right => k_is); (case k_L_moves_right => k_is); (case a_L_cut_right => k_is); (case l_L_cut_right => k_is); (case c_L_cut_right => k_is); (case k_L_cut_right => k_is); (case a_law => k_is); (case l_law => k_is); (case c_law => k_is); (case k_law => k_is); (case a_S => k_is); (case l_S => k_is); (case n_fig => k_is); (case t_fig => k_is); (case n_reg => k_is); (case t_reg => k_is); (case n_share => k_is); (case t_share => k_is); (case n_sum => k_is); (case t_sum => k_is); (case n_less => k_is); (case t_less => k_is); (case n_times => k_is); (case t_times => k_is); (case n_by => k_is); (case t_by => k_is); (case n_least => k_is); (case t_least => k_is); (case n_most => k_is); (case t_most => k_is); (case n_when => k_is); (case t_when => k_is); (case n_where => k_is); (case t_where => k_is); (case z_len => k_is); (case z_sum => k_is); (case z_max => k_is); (case z_min => k_is); (case z_abs => k_is); (case z_int => k_is); (case z_tuple => k_is); (case z_range => k_is); (case z_sorted => k_is); (case z_zip => k_is); (case z_isinstance => k_is); (case z_list => k_is); (case z_all => k_is); (case z_repr => k_is); (case z_str => k_is); (case z_enumerate => k_is)
    (case k_S => repeat (first | exact trivial | refine ⟨⟨_, _, rfl, rfl⟩, ?_⟩))
    (case v_fig => exact .cons ⟨_, rfl⟩ (.nil))
    (case v_reg => exact .cons ⟨_, rfl⟩ (.nil))
    (case v_share => exact .cons ⟨_, rfl⟩ (.nil))
    (case v_sum => exact .cons ⟨_, rfl⟩ (.cons ⟨_, rfl⟩ (.nil)))
    (case v_less => exact .cons ⟨_, rfl⟩ (.cons ⟨_, rfl⟩ (.nil)))
    (case v_times => exact .cons ⟨_, rfl⟩ (.cons ⟨_, rfl⟩ (.nil)))
    (case v_by => exact .cons ⟨_, rfl⟩ (.cons ⟨_, rfl⟩ (.nil)))
    (case v_least => exact .cons ⟨_, rfl⟩ (.cons ⟨_, rfl⟩ (.nil)))
    (case v_most => exact .cons ⟨_, rfl⟩ (.cons ⟨_, rfl⟩ (.nil)))
    (case v_when => exact .cons ⟨_, rfl⟩ (.cons ⟨_, rfl⟩ (.cons ⟨_, rfl⟩ (.cons ⟨_, rfl⟩ (.nil)))))
    (case v_where => exact .cons ⟨_, rfl⟩ (.cons ⟨_, rfl⟩ (.cons ⟨_, rfl⟩ (.cons ⟨_, rfl⟩ (.nil)))))

