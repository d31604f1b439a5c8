import PyProof.Rows.All
import Wide.All
import OpenK.AllK
import Wide.FinOn
import HandS.Base
import HandS.Call
import HandS.List
import HandS.Comp
import HandS.Ends
import HandS.Dict
import HandS.Iter
import HandS.Text
import HandS.Words
import HandS.WordsList
import HandS.WordsDict
import HandS.Conv
import HandS.Codes
import HandS.Wide
import HandS.Style
import KE.KTupSum
import HandS.Walk
import HandS.More
import HandS.Zip
import HandS.IsInst
import HandS.NoneIn
import PyProof.ReprRoads
import PyProof.ReprLen
import KE.KRevSl
import HandS.DeepEq
import HandS.TupAny
import HandS.TupMul
import KE.GoesMore
import KE.GoesEnum
import PySem.Challenge.RW_nonegrowsrich_k08_whole_rewritten_by_law
set_option Elab.async false
set_option linter.all false
set_option maxRecDepth 100000
set_option maxHeartbeats 4000000
namespace NG
open PySem PySem.Spec PyProof.Rows L2

/-! ### sum of a tuple -/
theorem cr_sumT {X : Cx} (hc : X.calm = true) : CallR X (.builtin "sum") (fun vs H Q => ∃ (a : Addr) (ns : List Int), vs = [V.ref a] ∧ SqT X.K H a (ns.map V.int) ∧ Q (.int ns.sum) H) := by
  intro pins s σ H vs us Q I r h
  obtain ⟨a, ns, rfl, hs, q⟩ := h
  obtain ⟨its, rv, hl, _⟩ := I.tuple hs
  rw [Vals.ref1 r]
  have hi := rv.ints
  obtain ⟨xs, e⟩ := hi.allInts.items
  have hn : numsOf (intItems xs).toList = ns := by rw [← e]; exact hi.numsOf
  rw [nums_intItems] at hn
  rw [e] at hl
  refine PySem.W.ktm_sumG (I.ok.hd hc) hl fun h' tk t' hk => ?_
  rw [preSum_eq, List.take_of_length_le (by simp), hn]
  exact ⟨.int _, H, I.kept hk, ⟨_, rfl⟩, q⟩

/-! ### rules whose reading names the written part, for a comprehension's block -/
theorem ixl {X : Cx} (K : PySem.W.Frag) (h : X.K = K := by rfl) : IxR X (rIxL K) := by
  subst h
  exact ix_list
theorem ixt {X : Cx} (K : PySem.W.Frag) (h : X.K = K := by rfl) : IxR X (rIxT K) := by
  subst h
  exact ix_tup
theorem lenK {X : Cx} (K : PySem.W.Frag) (h : X.K = K := by rfl) : CallR X (.builtin "len") (fun xs H Q => ∃ p ys, xs = [.ref p] ∧ (SqL K H p ys ∨ SqT K H p ys) ∧ Q (.int ys.length) H) := by
  subst h
  exact call_len_seq
theorem sumT {X : Cx} (K : PySem.W.Frag) (hc : X.calm = true) (h : X.K = K := by rfl) : CallR X (.builtin "sum") (fun vs H Q => ∃ (a : Addr) (ns : List Int), vs = [V.ref a] ∧ SqT K H a (ns.map V.int) ∧ Q (.int ns.sum) H) := by
  subst h
  exact cr_sumT hc
theorem sumL {X : Cx} (K : PySem.W.Frag) (hc : X.calm = true) (h : X.K = K := by rfl) : CallR X (.builtin "sum") (rSum K) := by
  subst h
  exact cr_sum hc

/-! ### short words -/
theorem iteFF {c : Bool} {A B : Prop} (hc : c = false) (h : B) : if c = true then A else B := by
  subst hc
  exact iteF h
theorem iteTT {c : Bool} {A B : Prop} (hc : c = true) (h : A) : if c = true then A else B := by
  subst hc
  exact iteT h
theorem iteD {p : Prop} [Decidable p] {A B : Prop} (h1 : p → A) (h2 : ¬ p → B) : if decide p = true then A else B := by
  by_cases h : p
  · rw [decide_eq_true h]
    exact iteT (h1 h)
  · rw [decide_eq_false h]
    exact iteF (h2 h)
theorem at_mem {xs : List V} {i : Int} (h0 : 0 ≤ i) (h1 : i < xs.length) : ∃ v, atI xs i = some v ∧ v ∈ xs := by
  have hj : i.toNat < xs.length := by omega
  refine ⟨xs[i.toNat], ?_, List.getElem_mem hj⟩
  exact at_of (j := i.toNat) (by omega) (List.getElem?_eq_getElem hj)
theorem at_int {ns : List Int} {i : Int} (h0 : 0 ≤ i) (h1 : i < ns.length) : atI (ns.map V.int) i = some (.int (ns.getD i.toNat 0)) := by
  have hj : i.toNat < ns.length := by omega
  refine at_of (j := i.toNat) (by omega) ?_
  rw [List.getElem?_map, List.getElem?_eq_getElem hj, List.getD_eq_getElem?_getD, List.getElem?_eq_getElem hj]
  rfl

/-- an expression, with a word behind it -/
def tCutE (t : TE) : TE := fun σ H Q => ∃ M : VK, t σ H M ∧ ∀ v H', M v H' → Q v H'
theorem pe_cut {X : Cx} {e : Expr} {t : TE} (h : PE X e t) : PE X e (tCutE t) :=
  ⟨fun pins s σ H Q I ⟨M, hm, hq⟩ => thn (h.run pins s σ H M I hm) fun u s1 ⟨x, H1, I1, r, q⟩ => ⟨x, H1, I1, r, hq _ _ q⟩⟩

/-! ### heaps: all but one object is as it was -/
def But (a : Addr) (H H' : Hp) : Prop := ∀ b o, b ≠ a → H b = some o → H' b = some o
theorem But.refl (a : Addr) (H : Hp) : But a H H := fun _ _ _ h => h
theorem But.trans {a : Addr} {H H1 H2 : Hp} (x : But a H H1) (y : But a H1 H2) : But a H H2 := fun b o n h => y b o n (x b o n h)
theorem But.of {a : Addr} {H H' : Hp} (x : Same H H') : But a H H' := fun b o _ h => x b o h
theorem But.new {a p : Addr} {H : Hp} {o : HO} (h : H p = none) : But a H (upd H p o) := fun b u _ e => by
  rw [upd_ne (ne_of_none e h)]
  exact e
theorem But.put {a : Addr} {H : Hp} {o : HO} : But a H (upd H a o) := fun b u n e => by
  rw [upd_ne n]
  exact e
theorem But.same {a : Addr} {H H' : Hp} (x : But a H H') (h : H a = none) : Same H H' := fun b o e => x b o (ne_of_none e h) e
theorem same_new {p : Addr} {H : Hp} {o : HO} (h : H p = none) : Same H (upd H p o) := fun b u e => by
  rw [upd_ne (ne_of_none e h)]
  exact e
theorem But.free {a b : Addr} {H H' : Hp} {o : HO} (x : But a H H') (h : H a = some o) (n : H' b = none) (n2 : H' a ≠ none) : H b = none := by
  cases q : H b with
  | none => rfl
  | some u =>
    by_cases e : b = a
    · subst e
      exact absurd n n2
    · rw [x b u e q] at n
      cases n
theorem But.sqt {a p : Addr} {H H' : Hp} {K : PySem.W.Frag} {l xs : List V} (x : But a H H') (h : H a = some (.lst l)) (q : SqT K H p xs) : SqT K H' p xs := by
  rcases q with (q | ⟨o, q⟩) | q
  · exact .inl (.inl (x _ _ (ne_of q h (by intro z; cases z)) q))
  · exact .inl (.inr ⟨o, x _ _ (ne_of q h (by intro z; cases z)) q⟩)
  · exact .inr q
theorem same_sqt {p : Addr} {H H' : Hp} {K : PySem.W.Frag} {xs : List V} (x : Same H H') (q : SqT K H p xs) : SqT K H' p xs := by
  rcases q with (q | ⟨o, q⟩) | q
  · exact .inl (.inl (x _ _ q))
  · exact .inl (.inr ⟨o, x _ _ q⟩)
  · exact .inr q

/-! ### the hand -/
def HandAt (H : Hp) (a : Addr) (n : Nat) : Prop := ∃ g s m : Int, H a = some (.lst [.int g, .int s, .int m]) ∧ 0 ≤ g ∧ 0 ≤ s ∧ 0 ≤ m ∧ m ≤ n
theorem HandAt.le {H : Hp} {a : Addr} {n k : Nat} (h : HandAt H a n) (l : n ≤ k) : HandAt H a k := by
  obtain ⟨g, s, m, e, h1, h2, h3, h4⟩ := h
  exact ⟨g, s, m, e, h1, h2, h3, by omega⟩
theorem HandAt.new {H : Hp} {a p : Addr} {n : Nat} {o : HO} (h : HandAt H a n) (hp : H p = none) : HandAt (upd H p o) a n := by
  obtain ⟨g, s, m, e, h1, h2, h3, h4⟩ := h
  exact ⟨g, s, m, by rw [upd_ne (ne_of_none e hp)]; exact e, h1, h2, h3, h4⟩
theorem HandAt.put {H : Hp} {a p : Addr} {n : Nat} {o : HO} (h : HandAt H a n) (hp : p ≠ a) : HandAt (upd H p o) a n := by
  obtain ⟨g, s, m, e, h1, h2, h3, h4⟩ := h
  exact ⟨g, s, m, by rw [upd_ne (Ne.symm hp)]; exact e, h1, h2, h3, h4⟩
theorem HandAt.ne {H : Hp} {a p : Addr} {n : Nat} (h : HandAt H a n) (hp : H p = none) : p ≠ a := by
  obtain ⟨g, s, m, e, _⟩ := h
  exact (ne_of_none e hp).symm
theorem HandAt.some {H : Hp} {a : Addr} {n : Nat} (h : HandAt H a n) : ∃ l, H a = some (.lst l) := by
  obtain ⟨g, s, m, e, _⟩ := h
  exact ⟨_, e⟩
theorem But.sq {a p : Addr} {H H' : Hp} {K : PySem.W.Frag} {n : Nat} {xs : List V} (x : But a H H') (h : HandAt H a n) (q : SqT K H p xs) : SqT K H' p xs := by
  obtain ⟨l, e⟩ := h.some
  exact x.sqt e q

structure Bl (mg : Str → Option Value) : Prop where
  len : mg "len" = none
  sum : mg "sum" = none
  max : mg "max" = none
  min : mg "min" = none
  abs : mg "abs" = none
  int : mg "int" = none
  tuple : mg "tuple" = none
  range : mg "range" = none
  sorted : mg "sorted" = none
  zip : mg "zip" = none
  isinstance : mg "isinstance" = none
  list : mg "list" = none
  all : mg "all" = none
  repr : mg "repr" = none
  str : mg "str" = none
  enumerate : mg "enumerate" = none

/-! ### a def that may be called by its name -/
structure Cal (P : Program) (w : World) (K : PySem.W.Frag) (mg : Str → Option Value) (base : Heap) (k : Nat) (x : Str) (sp : Sp) : Prop where
  ex : ∃ (f : Addr) (fd : FuncData) (ps : List Str), FnOk P w K mg base CX0 k f fd ps sp ∧ mg x = some (.ref f) ∧ PySem.W.keepIn K (.ref f) = true ∧ Binds K fd ps []
section
variable {X : Cx} {k j : Nat} {x : Str} {sp : Sp} {p pos : Pos} {e : Expr} {es : List Expr} {t : TA}
theorem pe_c (c : Cal X.prog X.w X.K X.mg X.base k x sp) (hr : Room j X.A) (hk : k ≤ j) (hg : Gl X x) (ha : PA X (e :: es) t)
    (hdb : (x == ("__debug__" : Str)) = false := by decide) (he : starEach (e :: es) X.env = (false, eval e X.env) :: starEach es X.env := by rfl) (hpl : (backTo pos (starEach es X.env)).any (·.1) = false := by rfl) :
    PE X (.Call (.Name x p) (e :: es) [] pos) (tCall sp [] E0 t) := by
  obtain ⟨f, fd, ps, F, hm, kp, b⟩ := c.ex
  exact pe_call F (hr.mono hk) hg hm kp b .nil pass0 ha hdb he hpl
end
theorem Cal.mono {P : Program} {w : World} {K : PySem.W.Frag} {mg : Str → Option Value} {base : Heap} {j k : Nat} {x : Str} {sp : Sp} (c : Cal P w K mg base j x sp) (h : j ≤ k) : Cal P w K mg base k x sp := by
  obtain ⟨f, fd, ps, F, r⟩ := c.ex
  exact ⟨f, fd, ps, F.mono h, r⟩

/-! ### promises of the draws -/
def spTake : Sp := fun vs H Q _ => ∃ (a : Addr) (many : Int) (n : Nat), vs = [.ref a, .int many] ∧ 0 < many ∧ many < 2 ^ 62 ∧ HandAt H a n ∧ n ≤ 1000000000 ∧
  ∀ H' r, But a H H' → HandAt H' a (n + 1) → 0 ≤ r → r < many → Q (.int r) H'
def spHand (K : PySem.W.Frag) : Sp := fun vs H Q _ => ∃ (a : Addr) (k : Int) (ns : List Int), vs = [.ref a, .int k] ∧ 0 ≤ k ∧ k < 1000 ∧ SqL K H a (ns.map V.int) ∧
  ∀ p g s, H p = none → 0 ≤ g → 0 ≤ s → Q (.ref p) (upd H p (.lst [.int g, .int s, .int 0]))
/-- an item of a list that is given -/
def spOf (K : PySem.W.Frag) : Sp := fun vs H Q _ => ∃ (a b : Addr) (xs : List V) (n : Nat), vs = [.ref a, .ref b] ∧ a ≠ b ∧ H b = some (.lst xs) ∧ 0 < xs.length ∧ xs.length ≤ 1000 ∧ HandAt H a n ∧ n ≤ 1000000000 ∧
  ∀ H' v, But a H H' → HandAt H' a (n + 1) → v ∈ xs → Q v H'
def spFigure : Sp := fun vs H Q _ => ∃ (a : Addr) (n : Nat), vs = [.ref a] ∧ HandAt H a n ∧ n ≤ 999999990 ∧
  ∀ H' c, But a H H' → HandAt H' a (n + 3) → -1000 ≤ c → c ≤ 1000 → Q (.int c) H'
end NG

namespace NG
open PySem PySem.Spec PyProof.Rows L2

/-! ### expressions -/
inductive W4 where
  | sum | less | least | most
  deriving DecidableEq
def wn : W4 → Str
  | .sum => "sum"
  | .less => "less"
  | .least => "least"
  | .most => "most"
inductive Ex where
  | fig (c : Int) | reg (i : Nat) | share (j : Nat)
  | two (w : W4) (a b : Ex)
  | times (f : Int) (a : Ex) | by (i : Nat) (a : Ex)
  | when (i : Nat) (c : Int) (a b : Ex) | whr (j : Nat) (c : Int) (a b : Ex)
def ExAt (K : PySem.W.Frag) (H : Hp) : Ex → V → Prop
  | .fig c, v => ∃ p, v = .ref p ∧ SqT K H p [.str "fig", .int c]
  | .reg i, v => ∃ p, v = .ref p ∧ SqT K H p [.str "reg", .int (i : Int)]
  | .share j, v => ∃ p, v = .ref p ∧ SqT K H p [.str "share", .int (j : Int)]
  | .two w a b, v => ∃ p x y, v = .ref p ∧ SqT K H p [.str (wn w), x, y] ∧ ExAt K H a x ∧ ExAt K H b y
  | .times f a, v => ∃ p x, v = .ref p ∧ SqT K H p [.str "times", .int f, x] ∧ ExAt K H a x
  | .by i a, v => ∃ p x, v = .ref p ∧ SqT K H p [.str "by", .int (i : Int), x] ∧ ExAt K H a x
  | .when i c a b, v => ∃ p x y, v = .ref p ∧ SqT K H p [.str "when", .int (i : Int), .int c, x, y] ∧ ExAt K H a x ∧ ExAt K H b y
  | .whr j c a b, v => ∃ p x y, v = .ref p ∧ SqT K H p [.str "where", .int (j : Int), .int c, x, y] ∧ ExAt K H a x ∧ ExAt K H b y
theorem ExAt.imp {K : PySem.W.Frag} {H H' : Hp} (h : ∀ p xs, SqT K H p xs → SqT K H' p xs) : ∀ {e : Ex} {v : V}, ExAt K H e v → ExAt K H' e v
  | .fig _, _, ⟨p, e, q⟩ => ⟨p, e, h _ _ q⟩
  | .reg _, _, ⟨p, e, q⟩ => ⟨p, e, h _ _ q⟩
  | .share _, _, ⟨p, e, q⟩ => ⟨p, e, h _ _ q⟩
  | .two _ _ _, _, ⟨p, x, y, e, q, a, b⟩ => ⟨p, x, y, e, h _ _ q, ExAt.imp h a, ExAt.imp h b⟩
  | .times _ _, _, ⟨p, x, e, q, a⟩ => ⟨p, x, e, h _ _ q, ExAt.imp h a⟩
  | .by _ _, _, ⟨p, x, e, q, a⟩ => ⟨p, x, e, h _ _ q, ExAt.imp h a⟩
  | .when _ _ _ _, _, ⟨p, x, y, e, q, a, b⟩ => ⟨p, x, y, e, h _ _ q, ExAt.imp h a, ExAt.imp h b⟩
  | .whr _ _ _ _, _, ⟨p, x, y, e, q, a, b⟩ => ⟨p, x, y, e, h _ _ q, ExAt.imp h a, ExAt.imp h b⟩
theorem ExAt.but {K : PySem.W.Frag} {H H' : Hp} {a : Addr} {n : Nat} {e : Ex} {v : V} (x : ExAt K H e v) (b : But a H H') (h : HandAt H a n) : ExAt K H' e v := x.imp fun _ _ q => b.sq h q
theorem ExAt.same {K : PySem.W.Frag} {H H' : Hp} {e : Ex} {v : V} (x : ExAt K H e v) (b : Same H H') : ExAt K H' e v := x.imp fun _ _ q => same_sqt b q
theorem ExAt.new {K : PySem.W.Frag} {H : Hp} {p : Addr} {o : HO} {e : Ex} {v : V} (x : ExAt K H e v) (n : H p = none) : ExAt K (upd H p o) e v := x.same (same_new n)
def ExOk (many : Nat) : Ex → Prop
  | .fig c => -1000 ≤ c ∧ c ≤ 1000
  | .reg i => i < 4
  | .share j => j < many
  | .two _ a b => ExOk many a ∧ ExOk many b
  | .times f a => (-9 ≤ f ∧ f ≤ 9) ∧ ExOk many a
  | .by i a => i < 4 ∧ ExOk many a
  | .when i c a b => i < 4 ∧ (-1000 ≤ c ∧ c ≤ 1000) ∧ ExOk many a ∧ ExOk many b
  | .whr j c a b => j < many ∧ (1 ≤ c ∧ c ≤ 1000) ∧ ExOk many a ∧ ExOk many b
def Ex.dep : Ex → Nat
  | .fig _ => 1
  | .reg _ => 1
  | .share _ => 1
  | .two _ a b => max a.dep b.dep + 1
  | .times _ a => a.dep + 1
  | .by _ a => a.dep + 1
  | .when _ _ a b => max a.dep b.dep + 1
  | .whr _ _ a b => max a.dep b.dep + 1
def jw : W4 → Int → Int → Int
  | .sum, x, y => x + y
  | .less, x, y => x - y
  | .least, x, y => if y < x then y else x
  | .most, x, y => if y > x then y else x
def wo (rs ss : List Int) : Ex → Int
  | .fig c => c * ss.sum
  | .reg i => rs.getD i 0 * ss.sum
  | .share j => 1000 * ss.getD j 0
  | .two w a b => jw w (wo rs ss a) (wo rs ss b)
  | .times f a => f * wo rs ss a
  | .by i a => rs.getD i 0 * wo rs ss a
  | .when i c a b => if rs.getD i 0 < c then wo rs ss a else wo rs ss b
  | .whr j c a b => if 1000 * ss.getD j 0 < c * ss.sum then wo rs ss a else wo rs ss b
theorem at_nth {ns : List Int} {i : Nat} (h : i < ns.length) : atI (ns.map V.int) (i : Int) = some (.int (ns.getD i 0)) := at_int (by omega) (by omega)

def RegsAt (K : PySem.W.Frag) (H : Hp) (rs : List Int) (v : V) : Prop := ∃ p, v = .ref p ∧ SqT K H p (rs.map V.int) ∧ rs.length = 4 ∧ ∀ x ∈ rs, -1000 ≤ x ∧ x ≤ 1000
def ShAt (K : PySem.W.Frag) (H : Hp) (many : Nat) (ss : List Int) (v : V) : Prop := ∃ p, v = .ref p ∧ SqT K H p (ss.map V.int) ∧ ss.length = many ∧ (∀ x ∈ ss, 0 ≤ x ∧ x < 2 ^ 50) ∧ 0 < ss.sum ∧ ss.sum < 2 ^ 60
theorem RegsAt.imp {K : PySem.W.Frag} {H H' : Hp} {rs : List Int} {v : V} (r : RegsAt K H rs v) (h : ∀ p xs, SqT K H p xs → SqT K H' p xs) : RegsAt K H' rs v := by
  obtain ⟨p, e, q, l⟩ := r
  exact ⟨p, e, h _ _ q, l⟩
theorem ShAt.imp {K : PySem.W.Frag} {H H' : Hp} {many : Nat} {rs : List Int} {v : V} (r : ShAt K H many rs v) (h : ∀ p xs, SqT K H p xs → SqT K H' p xs) : ShAt K H' many rs v := by
  obtain ⟨p, e, q, l⟩ := r
  exact ⟨p, e, h _ _ q, l⟩
theorem getD_mem {ns : List Int} {i : Nat} (h : i < ns.length) : ns.getD i 0 ∈ ns := by
  rw [List.getD_eq_getElem?_getD, List.getElem?_eq_getElem h]
  exact List.getElem_mem h

/-! ### promises -/
def spWorth (K : PySem.W.Frag) (n : Nat) : Sp := fun vs H Q _ => ∃ (v r s : V) (e : Ex) (many : Nat) (rs ss : List Int), vs = [v, r, s] ∧ ExAt K H e v ∧ ExOk many e ∧ e.dep ≤ n ∧ RegsAt K H rs r ∧ ShAt K H many ss s ∧ Q (.int (wo rs ss e)) H
def spJoinW : Sp := fun vs H Q _ => ∃ (w : W4) (x y : Int), vs = [.str (wn w), .int x, .int y] ∧ Q (.int (jw w x y)) H
def spLed (K : PySem.W.Frag) : Sp := fun vs H Q _ => ∃ (p : Addr) (r x y : V) (i : Nat) (c : Int) (rs : List Int), vs = [.ref p, r] ∧ SqT K H p [.str "when", .int (i : Int), .int c, x, y] ∧ i < 4 ∧ RegsAt K H rs r ∧ Q (if rs.getD i 0 < c then x else y) H
def spSide (K : PySem.W.Frag) : Sp := fun vs H Q _ => ∃ (p : Addr) (s x y : V) (many j : Nat) (c : Int) (ss : List Int), vs = [.ref p, s] ∧ SqT K H p [.str "where", .int (j : Int), .int c, x, y] ∧ j < many ∧ (1 ≤ c ∧ c ≤ 1000) ∧ ShAt K H many ss s ∧ Q (if 1000 * ss.getD j 0 < c * ss.sum then x else y) H
def spMills (K : PySem.W.Frag) : Sp := fun vs H Q _ => ∃ (s : V) (many j : Nat) (ss : List Int), vs = [s, .int (j : Int)] ∧ ShAt K H many ss s ∧ j < many ∧ Q (.int (1000 * ss.getD j 0 / ss.sum)) H
def cost : Nat → Nat
  | 0 => 6
  | n + 1 => 2 * cost n + 20
theorem cost_ge (l : Nat) : 6 ≤ cost l := by
  cases l with
  | zero => exact Nat.le_refl _
  | succ l =>
    unfold cost
    omega
def spLeaf (K : PySem.W.Frag) : Sp := fun vs H Q _ => ∃ (a : Addr) (many n : Nat), vs = [.ref a, .int (many : Int)] ∧ 1 ≤ many ∧ many ≤ 1000 ∧ HandAt H a n ∧ n ≤ 999999000 ∧
  ∀ H' v e, But a H H' → HandAt H' a (n + 5) → ExAt K H' e v → ExOk many e → e.dep ≤ 1 → Q v H'
def spExpr (K : PySem.W.Frag) (m : Nat) : Sp := fun vs H Q _ => ∃ (a : Addr) (many l n : Nat), vs = [.ref a, .int (many : Int), .int (l : Int), .int 1] ∧ l < m ∧ 1 ≤ many ∧ many ≤ 1000 ∧ HandAt H a n ∧ n + cost l ≤ 999999000 ∧
  ∀ H' v e, But a H H' → HandAt H' a (n + cost l) → ExAt K H' e v → ExOk many e → e.dep ≤ l + 1 → Q v H'
theorem cal_never {P : Program} {w : World} {K : PySem.W.Frag} {mg : Str → Option Value} {base : Heap} {k : Nat} {x qual : Str} {st : Stmt} {f : Addr} {fd : FuncData} {ps : List Str} {sp : Sp} (F : Fun K x qual st f fd) (gF : mg x = some (.ref f)) (b : Binds K fd ps []) (h : ∀ vs H Q E, ¬ sp vs H Q E) : Cal P w K mg base k x sp :=
  ⟨f, fd, ps, ⟨fun vs H Q E q => absurd q (h _ _ _ _), fun A outer s H args us vs Q E _ _ _ _ q => absurd q (h _ _ _ _)⟩, gF, F.kp, b⟩
theorem fn_never {P : Program} {w : World} {K : PySem.W.Frag} {mg : Str → Option Value} {base : Heap} {k : Nat} {f : Addr} {fd : FuncData} {ps : List Str} {sp : Sp} (h : ∀ vs H Q E, ¬ sp vs H Q E) : FnOk P w K mg base CX0 k f fd ps sp :=
  ⟨fun vs H Q E q => absurd q (h _ _ _ _), fun A outer s H args us vs Q E _ _ _ _ q => absurd q (h _ _ _ _)⟩
end NG

namespace NG
open PySem PySem.Spec PyProof.Rows L2

/-! ### the greatest that divides all -/
def gf (g : Nat) (x : Int) : Nat := Nat.gcd g x.toNat
def gl (ns : List Int) : Nat := ns.foldl gf 0
theorem gl_step {ns : List Int} {i : Nat} {x : Int} (h : ns[i]? = some x) : gl (ns.take (i + 1)) = Nat.gcd (gl (ns.take i)) x.toNat := by
  unfold gl
  rw [List.take_add_one, h, List.foldl_append]
  rfl
theorem gf_dvd : ∀ (ns : List Int) (g : Nat), ns.foldl gf g ∣ g ∧ ∀ x ∈ ns, ns.foldl gf g ∣ x.toNat
  | [], g => ⟨Nat.dvd_refl _, fun x h => by cases h⟩
  | y :: ns, g => by
    obtain ⟨h1, h2⟩ := gf_dvd ns (gf g y)
    refine ⟨Nat.dvd_trans h1 (Nat.gcd_dvd_left _ _), fun x hx => ?_⟩
    rcases List.mem_cons.mp hx with rfl | hx
    · exact Nat.dvd_trans h1 (Nat.gcd_dvd_right _ _)
    · exact h2 x hx
theorem gl_dvd {ns : List Int} {x : Int} (h : x ∈ ns) : gl ns ∣ x.toNat := (gf_dvd ns 0).2 x h
theorem gl_pos {ns : List Int} {x : Int} (h : x ∈ ns) (p : 0 < x) : 0 < gl ns := Nat.pos_of_dvd_of_pos (gl_dvd h) (by omega)
theorem sum_nonneg : ∀ {ms : List Int}, (∀ x ∈ ms, 0 ≤ x) → 0 ≤ ms.sum
  | [], _ => by simp
  | y :: ms, h => by
    have := sum_nonneg (ms := ms) fun x hx => h x (List.mem_cons_of_mem _ hx)
    have := h y List.mem_cons_self
    rw [List.sum_cons]
    omega
theorem sum_pos : ∀ {ms : List Int} {x : Int}, (∀ x ∈ ms, 0 ≤ x) → x ∈ ms → 0 < x → 0 < ms.sum
  | y :: ms, x, h, hx, p => by
    have h1 := sum_nonneg (ms := ms) fun x hx => h x (List.mem_cons_of_mem _ hx)
    have h2 := h y List.mem_cons_self
    rw [List.sum_cons]
    rcases List.mem_cons.mp hx with rfl | hx
    · omega
    · have := sum_pos (ms := ms) (fun x hx => h x (List.mem_cons_of_mem _ hx)) hx p
      omega
theorem sum_le {B : Int} : ∀ {ms : List Int}, (∀ x ∈ ms, x ≤ B) → ms.sum ≤ ms.length * B
  | [], _ => by simp
  | y :: ms, h => by
    have h1 := sum_le (ms := ms) fun x hx => h x (List.mem_cons_of_mem _ hx)
    have h2 := h y List.mem_cons_self
    rw [List.sum_cons, List.length_cons, Int.natCast_succ, Int.add_mul]
    omega
theorem div_le_self' {x : Int} {g : Nat} (h : 0 ≤ x) : x / (g : Int) ≤ x := Int.ediv_le_self _ h
/-- what lowest makes -/
def low (ns : List Int) : List Int := ns.map fun x => x / (gl ns : Int)
theorem low_sh {ns : List Int} (hb : ∀ x ∈ ns, 0 ≤ x ∧ x < 2 ^ 50) (hl : ns.length ≤ 1000) {y : Int} (hy : y ∈ ns) (py : 0 < y) :
    (∀ x ∈ low ns, 0 ≤ x ∧ x < 2 ^ 50) ∧ 0 < (low ns).sum ∧ (low ns).sum < 2 ^ 60 := by
  have hg := gl_pos hy py
  have h1 : ∀ x ∈ low ns, 0 ≤ x ∧ x < 2 ^ 50 := fun x hx => by
    obtain ⟨z, hz, rfl⟩ := List.mem_map.mp hx
    have h2 := hb z hz
    exact ⟨Int.ediv_nonneg h2.1 (by omega), Int.lt_of_le_of_lt (div_le_self' h2.1) h2.2⟩
  refine ⟨h1, ?_, ?_⟩
  · refine sum_pos (x := y / (gl ns : Int)) (fun x hx => (h1 x hx).1) (List.mem_map.mpr ⟨y, hy, rfl⟩) ?_
    have hd : (gl ns : Nat) ≤ y.toNat := Nat.le_of_dvd (by omega) (gl_dvd hy)
    exact Int.ediv_pos_of_pos_of_dvd py (by omega) (by
      have : ((gl ns : Nat) : Int) ∣ ((y.toNat : Nat) : Int) := Int.natCast_dvd_natCast.mpr (gl_dvd hy)
      rwa [Int.toNat_of_nonneg (by omega)] at this)
  · have h3 := sum_le (B := 2 ^ 50) (ms := low ns) fun x hx => Int.le_of_lt (h1 x hx).2
    have h4 : (low ns).length ≤ 1000 := by
      unfold low
      rw [List.length_map]
      exact hl
    have h5 : ((low ns).length : Int) * 2 ^ 50 ≤ 1000 * 2 ^ 50 := Int.mul_le_mul_of_nonneg_right (by omega) (by decide)
    have h6 : (1000 : Int) * 2 ^ 50 < 2 ^ 60 := by decide
    omega
theorem gcd_turn {u v : Nat} : Nat.gcd v (u % v) = Nat.gcd u v := by
  rw [Nat.gcd_comm v, ← Nat.gcd_rec, Nat.gcd_comm]
theorem ixN_of {n : Nat} {r : Int} (h0 : 0 ≤ r) (h1 : r < n) : ixN n r = some r.toNat := by
  unfold ixN
  rw [if_pos h0, if_pos h1]

theorem tYes_in {σ : L2.St} {H : Hp} {A B : Hp → Prop} (h : A H) : tYes σ H (fun b H3 => if b = true then A H3 else B H3) := by
  show if true = true then A H else B H
  exact iteT h

/-! ### promises -/
def spLow (K : PySem.W.Frag) : Sp := fun vs H Q _ => ∃ (p : Addr) (ns : List Int) (y : Int), vs = [.ref p] ∧ H p = some (.lst (ns.map V.int)) ∧ (∀ x ∈ ns, 0 ≤ x ∧ x < 2 ^ 50) ∧ ns.length ≤ 1000 ∧ y ∈ ns ∧ 0 < y ∧
  ∀ H' v ms, Same H H' → ShAt K H' ns.length ms v → Q v H'
def spShares (K : PySem.W.Frag) : Sp := fun vs H Q _ => ∃ (a : Addr) (many n : Nat), vs = [.ref a, .int (many : Int)] ∧ 1 ≤ many ∧ many ≤ 3 ∧ HandAt H a n ∧ n ≤ 999998000 ∧
  ∀ H' v ms, But a H H' → HandAt H' a (n + 20) → ShAt K H' many ms v → Q v H'
def spRegs (K : PySem.W.Frag) : Sp := fun vs H Q _ => ∃ (a : Addr) (n : Nat), vs = [.ref a] ∧ HandAt H a n ∧ n ≤ 999998000 ∧
  ∀ H' v rs, But a H H' → HandAt H' a (n + 12) → RegsAt K H' rs v → Q v H'
def spAsked (K : PySem.W.Frag) : Sp := fun vs H Q _ => ∃ (a : Addr) (many n : Nat), vs = [.ref a, .int (many : Int)] ∧ 2 ≤ many ∧ many ≤ 3 ∧ HandAt H a n ∧ n ≤ 999997000 ∧
  ∀ H' v ms, But a H H' → HandAt H' a (n + 25) → ShAt K H' many ms v → Q v H'
end NG

namespace NG
open PySem PySem.Spec PyProof.Rows L2
/-! ### rows of expressions -/
def RowsAt (K : PySem.W.Frag) (H : Hp) : List V → List Ex → Prop
  | [], [] => True
  | v :: vs, e :: es => ExAt K H e v ∧ RowsAt K H vs es
  | _, _ => False
theorem RowsAt.imp {K : PySem.W.Frag} {H H' : Hp} (h : ∀ p xs, SqT K H p xs → SqT K H' p xs) : ∀ {vs : List V} {es : List Ex}, RowsAt K H vs es → RowsAt K H' vs es
  | [], [], _ => trivial
  | _ :: _, _ :: _, ⟨x, r⟩ => ⟨x.imp h, RowsAt.imp h r⟩
theorem RowsAt.same {K : PySem.W.Frag} {H H' : Hp} {vs : List V} {es : List Ex} (r : RowsAt K H vs es) (s : Same H H') : RowsAt K H' vs es := r.imp fun _ _ q => same_sqt s q
theorem RowsAt.len {K : PySem.W.Frag} {H : Hp} : ∀ {vs : List V} {es : List Ex}, RowsAt K H vs es → vs.length = es.length
  | [], [], _ => rfl
  | _ :: _, _ :: _, ⟨_, r⟩ => by rw [List.length_cons, List.length_cons, r.len]
theorem RowsAt.snoc {K : PySem.W.Frag} {H : Hp} {v : V} {e : Ex} (x : ExAt K H e v) : ∀ {vs : List V} {es : List Ex}, RowsAt K H vs es → RowsAt K H (vs ++ [v]) (es ++ [e])
  | [], [], _ => ⟨x, trivial⟩
  | _ :: _, _ :: _, ⟨y, r⟩ => ⟨y, RowsAt.snoc x r⟩
theorem RowsAt.get {K : PySem.W.Frag} {H : Hp} : ∀ {vs : List V} {es : List Ex} {k : Nat} {e : Ex}, RowsAt K H vs es → es[k]? = some e → ∃ v, vs[k]? = some v ∧ ExAt K H e v
  | [], [], _, _, _, h => by simp at h
  | v :: vs, e' :: es, 0, e, ⟨x, r⟩, h => by
    have : e' = e := Option.some.inj h
    subst this
    exact ⟨v, rfl, x⟩
  | v :: vs, e' :: es, k + 1, e, ⟨x, r⟩, h => RowsAt.get (k := k) r h
def pairUp : List Ex → List Ex
  | a :: b :: r => .two .sum a b :: pairUp r
  | _ => []
theorem pairUp_get : ∀ {es : List Ex} {k : Nat} {a b : Ex}, es[2 * k]? = some a → es[2 * k + 1]? = some b → (pairUp es)[k]? = some (.two .sum a b)
  | [], k, _, _, h, _ => by simp at h
  | [_], k, _, _, _, h => by
    have := (List.getElem?_eq_some_iff.mp h).1
    rw [List.length_singleton] at this
    omega
  | x :: y :: r, 0, a, b, h, h2 => by
    have e1 : x = a := Option.some.inj h
    have e2 : y = b := Option.some.inj h2
    rw [← e1, ← e2]
    rfl
  | x :: y :: r, k + 1, a, b, h, h2 => by
    have h : r[2 * k]? = some a := h
    have h2 : r[2 * k + 1]? = some b := h2
    exact pairUp_get (es := r) (k := k) h h2
theorem pairUp_sum (rs ss : List Int) : ∀ {es : List Ex} {k : Nat}, es.length = 2 * k → ((pairUp es).map (wo rs ss)).sum = (es.map (wo rs ss)).sum ∧ (pairUp es).length = k
  | [], k, h => by
    rw [List.length_nil] at h
    exact ⟨rfl, by show 0 = k; omega⟩
  | [_], k, h => by
    rw [List.length_singleton] at h
    omega
  | x :: y :: r, k, h => by
    rw [List.length_cons, List.length_cons] at h
    obtain ⟨h1, h2⟩ := pairUp_sum rs ss (es := r) (k := k - 1) (by omega)
    refine ⟨?_, ?_⟩
    · show (wo rs ss (.two .sum x y) :: (pairUp r).map (wo rs ss)).sum = (wo rs ss x :: wo rs ss y :: r.map (wo rs ss)).sum
      rw [List.sum_cons, List.sum_cons, List.sum_cons, h1]
      show wo rs ss x + wo rs ss y + _ = _
      omega
    · show (pairUp r).length + 1 = k
      omega
theorem pairUp_ok {many d : Nat} : ∀ {es : List Ex}, (∀ e ∈ es, ExOk many e ∧ e.dep ≤ d) → ∀ e ∈ pairUp es, ExOk many e ∧ e.dep ≤ d + 1
  | [], _, e, h => by cases h
  | [_], _, e, h => by cases h
  | x :: y :: r, h, e, he => by
    have hx := h x List.mem_cons_self
    have hy := h y (List.mem_cons_of_mem _ List.mem_cons_self)
    rcases List.mem_cons.mp he with rfl | he
    · refine ⟨⟨hx.1, hy.1⟩, ?_⟩
      show max x.dep y.dep + 1 ≤ d + 1
      omega
    · exact pairUp_ok (es := r) (fun e he => h e (List.mem_cons_of_mem _ (List.mem_cons_of_mem _ he))) e he
def whn (j : Nat) (z : Int) : Ex := .whr j z (.fig 0) (.fig 1)
theorem count_sum (rs ss : List Int) (j : Nat) (h0 : 0 < ss.sum) : ∀ fs : List Int, ((fs.map (whn j)).map (wo rs ss)).sum = ((fs.filter fun z => decide (z ≤ 1000 * ss.getD j 0 / ss.sum)).length : Int) * ss.sum
  | [] => by simp
  | z :: fs => by
    have ih := count_sum rs ss j h0 fs
    have hm : 1000 * ss.getD j 0 / ss.sum < z ↔ 1000 * ss.getD j 0 < z * ss.sum := Int.ediv_lt_iff_lt_mul h0
    show (wo rs ss (whn j z) :: (fs.map (whn j)).map (wo rs ss)).sum = _
    rw [List.sum_cons, ih]
    show (if 1000 * ss.getD j 0 < z * ss.sum then 0 * ss.sum else 1 * ss.sum) + _ = _
    by_cases c : z ≤ 1000 * ss.getD j 0 / ss.sum
    · rw [List.filter_cons_of_pos (by rw [decide_eq_true c]), if_neg (fun q => by have := hm.mpr q; omega), List.length_cons, Int.natCast_succ, Int.add_mul]
      omega
    · rw [List.filter_cons_of_neg (by rw [decide_eq_false c]; exact Bool.false_ne_true), if_pos (hm.mp (by omega))]
      omega
def spCount (K : PySem.W.Frag) : Sp := fun vs H Q _ => ∃ (a : Addr) (many n : Nat) (s : V) (ss : List Int), vs = [.ref a, .int (many : Int), s] ∧ 2 ≤ many ∧ many ≤ 3 ∧ HandAt H a n ∧ n ≤ 999990000 ∧ ShAt K H many ss s ∧
  ∀ H', But a H H' → HandAt H' a (n + 10) → Q (.bl true) H'
end NG

namespace NG
open PySem PySem.Spec PyProof.Rows L2

/-! ### more rules -/
theorem pgtK {X : Cx} (K : PySem.W.Frag) {es : List Expr} {k : Nat} {t : TGs} {n : Nat} {pos : Pos} (hc : X.calm = true) (h : PGs X es t)
    (hn : (assignEach es X.env).length = n := by rfl) (hst : (assignEach es X.env).findIdx? (·.1) = none := by rfl) (hK : X.K = K := by rfl) : PG X (.Tuple es k pos) (gTup K n t) := by
  subst hK
  exact pg_tup hc h hn hst
theorem inK {X : Cx} (K : PySem.W.Frag) (h : X.K = K := by rfl) : OpR X (compareOp .In) (rIn K false) := by
  subst h
  exact op_in_seq
theorem isiK {X : Cx} (K : PySem.W.Frag) (h : X.K = K := by rfl) : CallR X (.builtin "isinstance") (rIsi K) := by
  subst h
  exact call_isi
theorem walk_zipT {K : PySem.W.Frag} {a b : Addr} {xs ys : List V} {n : Nat} (hx : xs.length = n) (hy : ys.length = n) : Walk (RZ.ItzT K a b) n (fun H => SqT K H a xs ∧ SqT K H b ys) (YPair (fun i => xs[i]?) (fun i => ys[i]?)) := by
  refine ⟨fun i H hi q => ?_, fun H q => ⟨xs, ys, q.1, q.2, .inl (by omega)⟩, fun i H v H' hi q y => ?_⟩
  · exact ⟨xs, ys, xs[i]'(by omega), ys[i]'(by omega), q.1, q.2, List.getElem?_eq_getElem _, List.getElem?_eq_getElem _⟩
  · obtain ⟨T, x, z, h1, h2, h3, h4, h5⟩ := y
    exact ⟨T, x, z, h1, h2, h3, h4 xs q.1, h5 ys q.2⟩
def tChain3 (r r' r'' : R2) (ta tb tc td : TE) : TT := fun σ H Q => ta σ H fun x H1 => tb σ H1 fun y H2 => r x y H2 fun z H3 => ∃ k, z = .bl k ∧
  (if k = true then tc σ H3 fun u H4 => r' y u H4 fun z' H5 => ∃ k', z' = .bl k' ∧ (if k' = true then td σ H5 fun v H6 => r'' u v H6 fun z'' H7 => ∃ k'', z'' = .bl k'' ∧ Q k'' H7 else Q false H5) else Q false H3)
theorem pt_chain3 {X : Cx} {a b c d : Expr} {ta tb tc td : TE} {pos : Pos} {o1 o2 o3 : CmpOp} {r1 r2 r3 : R2} (h1 : OpR X (compareOp o1) r1) (h2 : OpR X (compareOp o2) r2) (h3 : OpR X (compareOp o3) r3) (ha : PE X a ta) (hb : PE X b tb) (hc : PE X c tc) (hd : PE X d td)
    (hm : lastMarks [o1, o2, o3] [b, c, d] = false := by with_unfolding_all rfl) : PT X (.Compare a [o1, o2, o3] [b, c, d] pos) (tChain3 r1 r2 r3 ta tb tc td) := by
  refine ⟨fun pins s σ H Q I h => isTrue_chain (thn (ha.run pins s σ H _ I h) fun v1 s1 ⟨x, H1, I1, e1, q1⟩ => test_link (thn (hb.run pins s1 σ H1 _ I1 q1) fun v2 s2 ⟨y, H2, I2, e2, q2⟩ => thn (h1 pins s2 σ H2 x y v1 v2 _ I2 e1 e2 q2) fun v3 s3 ⟨z, H3, I3, e3, k, ek, q3⟩ => ?_)) hm⟩
  subst ek
  cases e3
  refine wpAny_truthy_bool ?_
  cases k with
  | false => exact ite_ff ⟨H3, I3, q3⟩
  | true =>
    refine ite_tt (test_link (thn (hc.run pins s3 σ H3 _ I3 q3) fun v4 s4 ⟨u, H4, I4, e4, q4⟩ => thn (h2 pins s4 σ H4 y u v2 v4 _ I4 e2 e4 q4) fun v5 s5 ⟨z', H5, I5, e5, k', ek', q5⟩ => ?_))
    subst ek'
    cases e5
    refine wpAny_truthy_bool ?_
    cases k' with
    | false => exact ite_ff ⟨H5, I5, q5⟩
    | true =>
      refine ite_tt (test_last (thn (hd.run pins s5 σ H5 _ I5 q5) fun v6 s6 ⟨v, H6, I6, e6, q6⟩ => thn (h3 pins s6 σ H6 u v v4 v6 _ I6 e4 e6 q6) fun v7 s7 ⟨z'', H7, I7, e7, k'', ek'', q7⟩ => ?_))
      subst ek''
      cases e7
      exact wpAny_truthy_bool ⟨H7, I7, q7⟩

/-! ### the shapes of words -/
def shapeOf : Ex → List Str
  | .fig _ => ["figure"]
  | .reg _ => ["place"]
  | .share _ => ["sign"]
  | .two _ _ _ => ["part", "part"]
  | .times _ _ => ["factor", "part"]
  | .by _ _ => ["place", "part"]
  | .when _ _ _ _ => ["place", "figure", "part", "part"]
  | .whr _ _ _ _ => ["sign", "line", "part", "part"]
def wordOf : Ex → Str
  | .fig _ => "fig"
  | .reg _ => "reg"
  | .share _ => "share"
  | .two w _ _ => wn w
  | .times _ _ => "times"
  | .by _ _ => "by"
  | .when _ _ _ _ => "when"
  | .whr _ _ _ _ => "where"
def Shapes (K : PySem.W.Frag) (w : World) (d : Addr) : Prop := ∀ e : Ex, ∃ q, KDct K w d (wordOf e) (.ref q) ∧ ∀ H, SqT K H q ((shapeOf e).map V.str)
def Ex.kids : Ex → List Ex
  | .fig _ => []
  | .reg _ => []
  | .share _ => []
  | .two _ a b => [a, b]
  | .times _ a => [a]
  | .by _ a => [a]
  | .when _ _ a b => [a, b]
  | .whr _ _ a b => [a, b]
/-- the items whose kind is a part -/
def pk : List Str → List V → List V
  | k :: ks, v :: vs => if V.str k = V.str "part" then v :: pk ks vs else pk ks vs
  | _, _ => []
theorem pk_snoc : ∀ {ks : List Str} {vs : List V} {i : Nat} {k : Str} {v : V}, ks[i]? = some k → vs[i]? = some v → pk (ks.take (i + 1)) (vs.take (i + 1)) = pk (ks.take i) (vs.take i) ++ (if V.str k = V.str "part" then [v] else [])
  | [], _, i, _, _, h, _ => by simp at h
  | _ :: _, [], i, _, _, _, h => by simp at h
  | k0 :: ks, v0 :: vs, 0, k, v, h, h2 => by
    have e1 : k0 = k := Option.some.inj h
    have e2 : v0 = v := Option.some.inj h2
    subst e1 e2
    show (if V.str k0 = V.str "part" then v0 :: pk (ks.take 0) (vs.take 0) else pk (ks.take 0) (vs.take 0)) = _
    split <;> rfl
  | k0 :: ks, v0 :: vs, i + 1, k, v, h, h2 => by
    have ih := pk_snoc (ks := ks) (vs := vs) (i := i) h h2
    show (if V.str k0 = V.str "part" then v0 :: pk (ks.take (i + 1)) (vs.take (i + 1)) else pk (ks.take (i + 1)) (vs.take (i + 1))) = (if V.str k0 = V.str "part" then v0 :: pk (ks.take i) (vs.take i) else pk (ks.take i) (vs.take i)) ++ _
    rw [ih]
    split <;> rfl
/-- how an expression lies: its word, then what belongs there -/
theorem ExAt.lies {K : PySem.W.Frag} {H : Hp} : ∀ {e : Ex} {v : V}, ExAt K H e v → ∃ (p : Addr) (xs : List V), v = .ref p ∧ SqT K H p (.str (wordOf e) :: xs) ∧ xs.length = (shapeOf e).length ∧ xs.length ≤ 4 ∧ 0 < xs.length ∧ RowsAt K H (pk (shapeOf e) xs) e.kids
  | .fig _, _, ⟨p, e, q⟩ => ⟨p, _, e, q, rfl, by simp, by simp, trivial⟩
  | .reg _, _, ⟨p, e, q⟩ => ⟨p, _, e, q, rfl, by simp, by simp, trivial⟩
  | .share _, _, ⟨p, e, q⟩ => ⟨p, _, e, q, rfl, by simp, by simp, trivial⟩
  | .two _ _ _, _, ⟨p, x, y, e, q, a, b⟩ => ⟨p, _, e, q, rfl, by simp, by simp, a, b, trivial⟩
  | .times _ _, _, ⟨p, x, e, q, a⟩ => ⟨p, _, e, q, rfl, by simp, by simp, a, trivial⟩
  | .by _ _, _, ⟨p, x, e, q, a⟩ => ⟨p, _, e, q, rfl, by simp, by simp, a, trivial⟩
  | .when _ _ _ _, _, ⟨p, x, y, e, q, a, b⟩ => ⟨p, _, e, q, rfl, by simp, by simp, a, b, trivial⟩
  | .whr _ _ _ _, _, ⟨p, x, y, e, q, a, b⟩ => ⟨p, _, e, q, rfl, by simp, by simp, a, b, trivial⟩
theorem pk_len : ∀ (ks : List Str) (vs : List V), (pk ks vs).length ≤ vs.length
  | [], vs => by
    unfold pk
    exact Nat.zero_le _
  | _ :: _, [] => Nat.le_refl _
  | k :: ks, v :: vs => by
    have := pk_len ks vs
    unfold pk
    split
    · rw [List.length_cons, List.length_cons]
      omega
    · rw [List.length_cons]
      omega

/-! ### spans -/
def mn (x y : Int) : Int := if y < x then y else x
def mx (x y : Int) : Int := if y > x then y else x
theorem mn_le (x y : Int) : mn x y ≤ x ∧ mn x y ≤ y := by unfold mn; split <;> omega
theorem le_mx (x y : Int) : x ≤ mx x y ∧ y ≤ mx x y := by unfold mx; split <;> omega
theorem mn_or (x y : Int) : mn x y = x ∨ mn x y = y := by unfold mn; split <;> simp
theorem mx_or (x y : Int) : mx x y = x ∨ mx x y = y := by unfold mx; split <;> simp
def ab (x : Int) : Int := if x < 0 then -x else x
def js : W4 → Int × Int → Int × Int → Int × Int
  | .sum, x, y => (x.1 + y.1, x.2 + y.2)
  | .less, x, y => (x.1 - y.2, x.2 - y.1)
  | .least, x, y => (mn x.1 y.1, mn x.2 y.2)
  | .most, x, y => (mx x.1 y.1, mx x.2 y.2)
def spn : Ex → Int × Int
  | .fig c => (c, c)
  | .reg _ => (-1000, 1000)
  | .share _ => (0, 1000)
  | .two w a b => js w (spn a) (spn b)
  | .times f a => (mn (f * (spn a).1) (f * (spn a).2), mx (f * (spn a).1) (f * (spn a).2))
  | .by _ a => (-1000 * mx (ab (spn a).1) (ab (spn a).2), 1000 * mx (ab (spn a).1) (ab (spn a).2))
  | .when _ _ a b => (mn (spn a).1 (spn b).1, mx (spn a).2 (spn b).2)
  | .whr _ _ a b => (mn (spn a).1 (spn b).1, mx (spn a).2 (spn b).2)
def SpAt (K : PySem.W.Frag) (H : Hp) (s : Int × Int) (v : V) : Prop := ∃ p, v = .ref p ∧ SqT K H p [.int s.1, .int s.2]
def SpsAt (K : PySem.W.Frag) (H : Hp) : List V → List (Int × Int) → Prop
  | [], [] => True
  | v :: vs, s :: ss => SpAt K H s v ∧ SpsAt K H vs ss
  | _, _ => False
theorem SpsAt.imp {K : PySem.W.Frag} {H H' : Hp} (h : ∀ p xs, SqT K H p xs → SqT K H' p xs) : ∀ {vs : List V} {ss : List (Int × Int)}, SpsAt K H vs ss → SpsAt K H' vs ss
  | [], [], _ => trivial
  | _ :: _, _ :: _, ⟨⟨p, e, q⟩, r⟩ => ⟨⟨p, e, h _ _ q⟩, SpsAt.imp h r⟩
theorem SpsAt.snoc {K : PySem.W.Frag} {H : Hp} {v : V} {s : Int × Int} (x : SpAt K H s v) : ∀ {vs : List V} {ss : List (Int × Int)}, SpsAt K H vs ss → SpsAt K H (vs ++ [v]) (ss ++ [s])
  | [], [], _ => ⟨x, trivial⟩
  | _ :: _, _ :: _, ⟨y, r⟩ => ⟨y, SpsAt.snoc x r⟩
theorem SpsAt.len {K : PySem.W.Frag} {H : Hp} : ∀ {vs : List V} {ss : List (Int × Int)}, SpsAt K H vs ss → vs.length = ss.length
  | [], [], _ => rfl
  | _ :: _, _ :: _, ⟨_, r⟩ => by rw [List.length_cons, List.length_cons, r.len]

theorem int_at {ns : List Int} {i : Nat} {v : V} (h : (ns.map V.int)[i]? = some v) : ∃ z : Int, v = .int z ∧ ns[i]? = some z := by
  rw [List.getElem?_map] at h
  cases e : ns[i]? with
  | none => rw [e] at h; cases h
  | some z => rw [e] at h; exact ⟨z, (Option.some.inj h).symm, rfl⟩
theorem SpsAt.one {K : PySem.W.Frag} {H : Hp} {us : List V} {s : Int × Int} (h : SpsAt K H us [s]) : ∃ p, us = [.ref p] ∧ SqT K H p [.int s.1, .int s.2] := by
  cases us with
  | nil => exact h.elim
  | cons u r =>
    cases r with
    | nil =>
      obtain ⟨⟨p, e, q⟩, _⟩ := h
      exact ⟨p, by rw [e], q⟩
    | cons _ _ => exact h.2.elim
theorem SpsAt.pair {K : PySem.W.Frag} {H : Hp} {us : List V} {s t : Int × Int} (h : SpsAt K H us [s, t]) : ∃ p q, us = [.ref p, .ref q] ∧ SqT K H p [.int s.1, .int s.2] ∧ SqT K H q [.int t.1, .int t.2] := by
  cases us with
  | nil => exact h.elim
  | cons u r =>
    obtain ⟨⟨p, e, q⟩, h2⟩ := h
    obtain ⟨p2, e2, q2⟩ := SpsAt.one h2
    exact ⟨p, p2, by rw [e, e2], q, q2⟩
theorem put_sqt {K : PySem.W.Frag} {H : Hp} {D p : Addr} {us us' xs : List V} (h : H D = some (.lst us)) (q : SqT K H p xs) : SqT K (upd H D (.lst us')) p xs := by
  rcases q with (q | ⟨o, q⟩) | q
  · exact .inl (.inl (by rw [upd_ne (ne_of q h (by intro z; cases z))]; exact q))
  · exact .inl (.inr ⟨o, by rw [upd_ne (ne_of q h (by intro z; cases z))]; exact q⟩)
  · exact .inr q
theorem RowsAt.get' {K : PySem.W.Frag} {H : Hp} : ∀ {vs : List V} {es : List Ex} {k : Nat} {v : V}, RowsAt K H vs es → vs[k]? = some v → ∃ e, es[k]? = some e ∧ ExAt K H e v
  | [], [], _, _, _, h => by simp at h
  | v' :: vs, e :: es, 0, v, ⟨x, r⟩, h => by
    have : v' = v := Option.some.inj h
    subst this
    exact ⟨e, rfl, x⟩
  | v' :: vs, e :: es, k + 1, v, ⟨x, r⟩, h => RowsAt.get' (k := k) r h
theorem mn_of {m a b : Int} (h : m ∈ [a, b]) (hl : ∀ y ∈ [a, b], m ≤ y) : m = mn a b := by
  have h1 := hl a (by simp)
  have h2 := hl b (by simp)
  simp only [List.mem_cons, List.not_mem_nil, or_false] at h
  unfold mn
  split <;> omega
theorem mx_of {m a b : Int} (h : m ∈ [a, b]) (hl : ∀ y ∈ [a, b], y ≤ m) : m = mx a b := by
  have h1 := hl a (by simp)
  have h2 := hl b (by simp)
  simp only [List.mem_cons, List.not_mem_nil, or_false] at h
  unfold mx
  split <;> omega

/-! ### promises -/
def spParts (K : PySem.W.Frag) : Sp := fun vs H Q _ => ∃ (v : V) (e : Ex), vs = [v] ∧ ExAt K H e v ∧ ∀ H' p xs, Same H H' → H p = none → H' p = some (.lst xs) → RowsAt K H' xs e.kids → Q (.ref p) H'
def spJoinS (K : PySem.W.Frag) : Sp := fun vs H Q _ => ∃ (e : Ex) (x y : V) (s t : Int × Int), vs = [.str (wordOf e), x, y] ∧ SpAt K H s x ∧ SpAt K H t y ∧
  ((∃ w a b, e = .two w a b ∧ ∀ H' v, Same H H' → SpAt K H' (js w s t) v → Q v H') ∨ ((∃ i c a b, e = .when i c a b) ∨ (∃ i c a b, e = .whr i c a b)) ∧ ∀ H' v, Same H H' → SpAt K H' (mn s.1 t.1, mx s.2 t.2) v → Q v H')
def spSpan (K : PySem.W.Frag) (n : Nat) : Sp := fun vs H Q _ => ∃ (v : V) (e : Ex) (many : Nat), vs = [v] ∧ ExAt K H e v ∧ ExOk many e ∧ e.dep ≤ n ∧ ∀ H' u, Same H H' → SpAt K H' (spn e) u → Q u H'
theorem kids_dep : ∀ (e : Ex) (k : Ex), k ∈ e.kids → k.dep + 1 ≤ e.dep
  | .fig _, k, h => by cases h
  | .reg _, k, h => by cases h
  | .share _, k, h => by cases h
  | .two w0 a b, k, h => by
    simp only [Ex.kids, List.mem_cons, List.not_mem_nil, or_false] at h
    have e : Ex.dep (.two w0 a b) = max a.dep b.dep + 1 := rfl
    rw [e]
    rcases h with rfl | rfl <;> omega
  | .times _ a, k, h => by
    simp only [Ex.kids, List.mem_cons, List.not_mem_nil, or_false] at h
    subst h
    exact Nat.le_refl _
  | .by _ a, k, h => by
    simp only [Ex.kids, List.mem_cons, List.not_mem_nil, or_false] at h
    subst h
    exact Nat.le_refl _
  | .when i0 c0 a b, k, h => by
    simp only [Ex.kids, List.mem_cons, List.not_mem_nil, or_false] at h
    have e : Ex.dep (.when i0 c0 a b) = max a.dep b.dep + 1 := rfl
    rw [e]
    rcases h with rfl | rfl <;> omega
  | .whr i0 c0 a b, k, h => by
    simp only [Ex.kids, List.mem_cons, List.not_mem_nil, or_false] at h
    have e : Ex.dep (.whr i0 c0 a b) = max a.dep b.dep + 1 := rfl
    rw [e]
    rcases h with rfl | rfl <;> omega
theorem kids_ok {many : Nat} : ∀ (e : Ex) (k : Ex), ExOk many e → k ∈ e.kids → ExOk many k
  | .fig _, k, _, h => by cases h
  | .reg _, k, _, h => by cases h
  | .share _, k, _, h => by cases h
  | .two _ a b, k, o, h => by
    simp only [Ex.kids, List.mem_cons, List.not_mem_nil, or_false] at h
    rcases h with rfl | rfl
    · exact o.1
    · exact o.2
  | .times _ a, k, o, h => by
    simp only [Ex.kids, List.mem_cons, List.not_mem_nil, or_false] at h
    subst h
    exact o.2
  | .by _ a, k, o, h => by
    simp only [Ex.kids, List.mem_cons, List.not_mem_nil, or_false] at h
    subst h
    exact o.2
  | .when _ _ a b, k, o, h => by
    simp only [Ex.kids, List.mem_cons, List.not_mem_nil, or_false] at h
    rcases h with rfl | rfl
    · exact o.2.2.1
    · exact o.2.2.2
  | .whr _ _ a b, k, o, h => by
    simp only [Ex.kids, List.mem_cons, List.not_mem_nil, or_false] at h
    rcases h with rfl | rfl
    · exact o.2.2.1
    · exact o.2.2.2
end NG

namespace NG
open PySem PySem.Spec PyProof.Rows L2
/-! ### what stands around an expression -/
inductive Cx1 where
  | l (w : W4) (x : Ex) | r (w : W4) (x : Ex) | times (f : Int) | by (i : Nat)
  | whenL (i : Nat) (c : Int) (x : Ex) | whenR (i : Nat) (c : Int) (x : Ex) | whrL (j : Nat) (c : Int) (x : Ex) | whrR (j : Nat) (c : Int) (x : Ex)
def Cx1.put : Cx1 → Ex → Ex
  | .l w x, e => .two w e x
  | .r w x, e => .two w x e
  | .times f, e => .times f e
  | .by i, e => .by i e
  | .whenL i c x, e => .when i c e x
  | .whenR i c x, e => .when i c x e
  | .whrL j c x, e => .whr j c e x
  | .whrR j c x, e => .whr j c x e
def Cx1.lay (u : V) : Cx1 → List V × List V
  | .l w _ => ([.str (wn w)], [u])
  | .r w _ => ([.str (wn w), u], [])
  | .times f => ([.str "times", .int f], [])
  | .by i => ([.str "by", .int (i : Int)], [])
  | .whenL i c _ => ([.str "when", .int (i : Int), .int c], [u])
  | .whenR i c _ => ([.str "when", .int (i : Int), .int c, u], [])
  | .whrL j c _ => ([.str "where", .int (j : Int), .int c], [u])
  | .whrR j c _ => ([.str "where", .int (j : Int), .int c, u], [])
def Cx1.leaf (K : PySem.W.Frag) (H : Hp) (u : V) : Cx1 → Prop
  | .l _ x => ExAt K H x u
  | .r _ x => ExAt K H x u
  | .times _ => True
  | .by _ => True
  | .whenL _ _ x => ExAt K H x u
  | .whenR _ _ x => ExAt K H x u
  | .whrL _ _ x => ExAt K H x u
  | .whrR _ _ x => ExAt K H x u
def Cx1.ok (many : Nat) : Cx1 → Prop
  | .l _ x => ExOk many x ∧ x.dep ≤ 1
  | .r _ x => ExOk many x ∧ x.dep ≤ 1
  | .times f => -9 ≤ f ∧ f ≤ 9
  | .by i => i < 4
  | .whenL i c x => i < 4 ∧ (-1000 ≤ c ∧ c ≤ 1000) ∧ ExOk many x ∧ x.dep ≤ 1
  | .whenR i c x => i < 4 ∧ (-1000 ≤ c ∧ c ≤ 1000) ∧ ExOk many x ∧ x.dep ≤ 1
  | .whrL j c x => j < many ∧ (1 ≤ c ∧ c ≤ 1000) ∧ ExOk many x ∧ x.dep ≤ 1
  | .whrR j c x => j < many ∧ (1 ≤ c ∧ c ≤ 1000) ∧ ExOk many x ∧ x.dep ≤ 1
def CtxAt (K : PySem.W.Frag) (H : Hp) (c : Cx1) (v : V) : Prop := ∃ (p pa pr : Addr) (u : V), v = .ref p ∧ SqT K H p [.ref pa, .ref pr] ∧ SqT K H pa (c.lay u).1 ∧ SqT K H pr (c.lay u).2 ∧ c.leaf K H u
theorem CtxAt.imp {K : PySem.W.Frag} {H H' : Hp} {c : Cx1} {v : V} (x : CtxAt K H c v) (h : ∀ p xs, SqT K H p xs → SqT K H' p xs) : CtxAt K H' c v := by
  obtain ⟨p, pa, pr, u, e, q1, q2, q3, lf⟩ := x
  refine ⟨p, pa, pr, u, e, h _ _ q1, h _ _ q2, h _ _ q3, ?_⟩
  cases c with
  | l w x => exact ExAt.imp h lf
  | r w x => exact ExAt.imp h lf
  | times f => trivial
  | «by» i => trivial
  | whenL i c x => exact ExAt.imp h lf
  | whenR i c x => exact ExAt.imp h lf
  | whrL i c x => exact ExAt.imp h lf
  | whrR i c x => exact ExAt.imp h lf
def CtxsAt (K : PySem.W.Frag) (H : Hp) : List V → List Cx1 → Prop
  | [], [] => True
  | v :: vs, c :: cs => CtxAt K H c v ∧ CtxsAt K H vs cs
  | _, _ => False
theorem CtxsAt.imp {K : PySem.W.Frag} {H H' : Hp} (h : ∀ p xs, SqT K H p xs → SqT K H' p xs) : ∀ {vs : List V} {cs : List Cx1}, CtxsAt K H vs cs → CtxsAt K H' vs cs
  | [], [], _ => trivial
  | _ :: _, _ :: _, ⟨x, r⟩ => ⟨x.imp h, CtxsAt.imp h r⟩
theorem CtxsAt.len {K : PySem.W.Frag} {H : Hp} : ∀ {vs : List V} {cs : List Cx1}, CtxsAt K H vs cs → vs.length = cs.length
  | [], [], _ => rfl
  | _ :: _, _ :: _, ⟨_, r⟩ => by rw [List.length_cons, List.length_cons, r.len]
theorem CtxsAt.snoc {K : PySem.W.Frag} {H : Hp} {v : V} {c : Cx1} (x : CtxAt K H c v) : ∀ {vs : List V} {cs : List Cx1}, CtxsAt K H vs cs → CtxsAt K H (vs ++ [v]) (cs ++ [c])
  | [], [], _ => ⟨x, trivial⟩
  | _ :: _, _ :: _, ⟨y, r⟩ => ⟨y, CtxsAt.snoc x r⟩
theorem CtxsAt.get' {K : PySem.W.Frag} {H : Hp} : ∀ {vs : List V} {cs : List Cx1} {k : Nat} {v : V}, CtxsAt K H vs cs → vs[k]? = some v → ∃ c, cs[k]? = some c ∧ CtxAt K H c v
  | [], [], _, _, _, h => by simp at h
  | v' :: vs, e :: es, 0, v, ⟨x, r⟩, h => by
    have : v' = v := Option.some.inj h
    subst this
    exact ⟨e, rfl, x⟩
  | v' :: vs, e :: es, k + 1, v, ⟨x, r⟩, h => CtxsAt.get' (k := k) r h
theorem put_at {K : PySem.W.Frag} {H : Hp} {c : Cx1} {u v : V} {e : Ex} {p : Addr} (hp : SqT K H p ((c.lay u).1 ++ [v] ++ (c.lay u).2)) (lf : c.leaf K H u) (he : ExAt K H e v) : ExAt K H (c.put e) (.ref p) := by
  cases c with
  | l w x => exact ⟨p, v, u, rfl, hp, he, lf⟩
  | r w x => exact ⟨p, u, v, rfl, hp, lf, he⟩
  | times f => exact ⟨p, v, rfl, hp, he⟩
  | «by» i => exact ⟨p, v, rfl, hp, he⟩
  | whenL i c x => exact ⟨p, v, u, rfl, hp, he, lf⟩
  | whenR i c x => exact ⟨p, u, v, rfl, hp, lf, he⟩
  | whrL i c x => exact ⟨p, v, u, rfl, hp, he, lf⟩
  | whrR i c x => exact ⟨p, u, v, rfl, hp, lf, he⟩
theorem put_ok {many : Nat} {c : Cx1} {e : Ex} (o : c.ok many) (oe : ExOk many e) : ExOk many (c.put e) := by
  cases c with
  | l w x => exact ⟨oe, o.1⟩
  | r w x => exact ⟨o.1, oe⟩
  | times f => exact ⟨o, oe⟩
  | «by» i => exact ⟨o, oe⟩
  | whenL i c x => exact ⟨o.1, o.2.1, oe, o.2.2.1⟩
  | whenR i c x => exact ⟨o.1, o.2.1, o.2.2.1, oe⟩
  | whrL i c x => exact ⟨o.1, o.2.1, oe, o.2.2.1⟩
  | whrR i c x => exact ⟨o.1, o.2.1, o.2.2.1, oe⟩
theorem dep_pos (e : Ex) : 1 ≤ e.dep := by cases e <;> (unfold Ex.dep; omega)
theorem put_dep {many : Nat} {c : Cx1} {e : Ex} (o : c.ok many) : (c.put e).dep ≤ e.dep + 1 := by
  have he := dep_pos e
  cases c with
  | l w x => show max e.dep x.dep + 1 ≤ _; have := o.2; omega
  | r w x => show max x.dep e.dep + 1 ≤ _; have := o.2; omega
  | times f => exact Nat.le_refl _
  | «by» i => exact Nat.le_refl _
  | whenL i c x => show max e.dep x.dep + 1 ≤ _; have := o.2.2.2; omega
  | whenR i c x => show max x.dep e.dep + 1 ≤ _; have := o.2.2.2; omega
  | whrL i c x => show max e.dep x.dep + 1 ≤ _; have := o.2.2.2; omega
  | whrR i c x => show max x.dep e.dep + 1 ≤ _; have := o.2.2.2; omega
def putAll (cs : List Cx1) (e : Ex) : Ex := cs.foldl (fun e c => c.put e) e
theorem putAll_ok {many : Nat} : ∀ {cs : List Cx1} {e : Ex}, (∀ c ∈ cs, c.ok many) → ExOk many e → ExOk many (putAll cs e)
  | [], _, _, h => h
  | c :: cs, e, o, h => putAll_ok (cs := cs) (e := c.put e) (fun c' h' => o c' (List.mem_cons_of_mem _ h')) (put_ok (o c List.mem_cons_self) h)
theorem putAll_dep {many : Nat} : ∀ {cs : List Cx1} {e : Ex}, (∀ c ∈ cs, c.ok many) → (putAll cs e).dep ≤ e.dep + cs.length
  | [], _, _ => Nat.le_refl _
  | c :: cs, e, o => by
    have h1 := putAll_dep (cs := cs) (e := c.put e) (fun c' h' => o c' (List.mem_cons_of_mem _ h'))
    have h2 := put_dep (e := e) (o c List.mem_cons_self)
    show (putAll cs (c.put e)).dep ≤ _
    rw [List.length_cons]
    omega
def fac1 (rs : List Int) (F : Int) : Cx1 → Int
  | .times f => F * f
  | .by i => F * rs.getD i 0
  | .r .less _ => 0 - F
  | _ => F
def fac (rs : List Int) (cs : List Cx1) : Int := cs.foldl (fac1 rs) 1

/-! ### a greater part put in -/
def Btw (d m : Int) : Prop := (0 ≤ d ∧ d ≤ m) ∨ (m ≤ d ∧ d ≤ 0)
theorem btw_mul {f d m : Int} (h : Btw d m) : Btw (f * d) (f * m) := by
  rcases Int.le_total 0 f with hf | hf
  · rcases h with ⟨h1, h2⟩ | ⟨h1, h2⟩
    · exact .inl ⟨Int.mul_nonneg hf h1, Int.mul_le_mul_of_nonneg_left h2 hf⟩
    · exact .inr ⟨Int.mul_le_mul_of_nonneg_left h1 hf, Int.mul_nonpos_of_nonneg_of_nonpos hf h2⟩
  · rcases h with ⟨h1, h2⟩ | ⟨h1, h2⟩
    · exact .inr ⟨Int.mul_le_mul_of_nonpos_left hf h2, Int.mul_nonpos_of_nonpos_of_nonneg hf h1⟩
    · exact .inl ⟨Int.mul_nonneg_of_nonpos_of_nonpos hf h2, Int.mul_le_mul_of_nonpos_left hf h1⟩
theorem btw_zero {m : Int} : Btw 0 m := by
  unfold Btw
  omega
theorem btw_jw {d m x y z : Int} (w : W4) (h : Btw d m) (e : d = y - x) (hw : w ≠ .less) : Btw (jw w y z - jw w x z) m := by
  unfold Btw at *
  cases w with
  | sum => simp only [jw]; omega
  | less => exact absurd rfl hw
  | least => simp only [jw]; split <;> split <;> omega
  | most => simp only [jw]; split <;> split <;> omega
theorem btw_jw' {d m x y z : Int} (w : W4) (h : Btw d m) (e : d = y - x) (hw : w ≠ .less) : Btw (jw w z y - jw w z x) m := by
  unfold Btw at *
  cases w with
  | sum => simp only [jw]; omega
  | less => exact absurd rfl hw
  | least => simp only [jw]; split <;> split <;> omega
  | most => simp only [jw]; split <;> split <;> omega
theorem btw_step {rs ss : List Int} {c : Cx1} {e1 e2 : Ex} {F P : Int} (h : Btw (wo rs ss e2 - wo rs ss e1) (F * P)) : Btw (wo rs ss (c.put e2) - wo rs ss (c.put e1)) (fac1 rs F c * P) := by
  cases c with
  | l w x =>
    cases w with
    | less =>
      show Btw ((wo rs ss e2 - wo rs ss x) - (wo rs ss e1 - wo rs ss x)) (F * P)
      rw [show (wo rs ss e2 - wo rs ss x) - (wo rs ss e1 - wo rs ss x) = wo rs ss e2 - wo rs ss e1 by omega]
      exact h
    | sum => exact btw_jw .sum h rfl (by simp)
    | least => exact btw_jw .least h rfl (by simp)
    | most => exact btw_jw .most h rfl (by simp)
  | r w x =>
    cases w with
    | less =>
      show Btw ((wo rs ss x - wo rs ss e2) - (wo rs ss x - wo rs ss e1)) ((0 - F) * P)
      rw [Int.sub_mul, Int.zero_mul]
      unfold Btw at *
      omega
    | sum => exact btw_jw' .sum h rfl (by simp)
    | least => exact btw_jw' .least h rfl (by simp)
    | most => exact btw_jw' .most h rfl (by simp)
  | times f =>
    show Btw (f * wo rs ss e2 - f * wo rs ss e1) (F * f * P)
    rw [← Int.mul_sub, Int.mul_comm F f, Int.mul_assoc]
    exact btw_mul h
  | «by» i =>
    show Btw (rs.getD i 0 * wo rs ss e2 - rs.getD i 0 * wo rs ss e1) (F * rs.getD i 0 * P)
    rw [← Int.mul_sub, Int.mul_comm F, Int.mul_assoc]
    exact btw_mul h
  | whenL i c x =>
    show Btw ((if rs.getD i 0 < c then wo rs ss e2 else wo rs ss x) - (if rs.getD i 0 < c then wo rs ss e1 else wo rs ss x)) (F * P)
    split
    · exact h
    · rw [Int.sub_self]
      exact btw_zero
  | whenR i c x =>
    show Btw ((if rs.getD i 0 < c then wo rs ss x else wo rs ss e2) - (if rs.getD i 0 < c then wo rs ss x else wo rs ss e1)) (F * P)
    split
    · rw [Int.sub_self]
      exact btw_zero
    · exact h
  | whrL j c x =>
    show Btw ((if 1000 * ss.getD j 0 < c * ss.sum then wo rs ss e2 else wo rs ss x) - (if 1000 * ss.getD j 0 < c * ss.sum then wo rs ss e1 else wo rs ss x)) (F * P)
    split
    · exact h
    · rw [Int.sub_self]
      exact btw_zero
  | whrR j c x =>
    show Btw ((if 1000 * ss.getD j 0 < c * ss.sum then wo rs ss x else wo rs ss e2) - (if 1000 * ss.getD j 0 < c * ss.sum then wo rs ss x else wo rs ss e1)) (F * P)
    split
    · rw [Int.sub_self]
      exact btw_zero
    · exact h
theorem btw_all {rs ss : List Int} {P : Int} : ∀ {cs : List Cx1} {e1 e2 : Ex} {F : Int}, Btw (wo rs ss e2 - wo rs ss e1) (F * P) → Btw (wo rs ss (putAll cs e2) - wo rs ss (putAll cs e1)) (cs.foldl (fac1 rs) F * P)
  | [], _, _, _, h => h
  | c :: cs, e1, e2, F, h => btw_all (cs := cs) (e1 := c.put e1) (e2 := c.put e2) (F := fac1 rs F c) (btw_step h)
theorem moved {rs ss : List Int} {cs : List Cx1} {e : Ex} {p : Int} (h : 0 ≤ p * ss.sum) : Btw (wo rs ss (putAll cs (.two .sum e (.fig p))) - wo rs ss (putAll cs e)) (fac rs cs * p * ss.sum) := by
  rw [Int.mul_assoc]
  refine btw_all (F := 1) ?_
  show Btw (wo rs ss e + p * ss.sum - wo rs ss e) (1 * (p * ss.sum))
  rw [Int.one_mul]
  unfold Btw
  omega

/-! ### worths lie in their spans -/
theorem le_sum : ∀ {ss : List Int} {j : Nat}, (∀ x ∈ ss, 0 ≤ x) → j < ss.length → ss.getD j 0 ≤ ss.sum
  | [], _, _, h => by simp at h
  | x :: ss, 0, h, _ => by
    have := sum_nonneg (ms := ss) fun y hy => h y (List.mem_cons_of_mem _ hy)
    show x ≤ (x :: ss).sum
    rw [List.sum_cons]
    omega
  | x :: ss, j + 1, h, hj => by
    have h1 := le_sum (ss := ss) (j := j) (fun y hy => h y (List.mem_cons_of_mem _ hy)) (by simpa using hj)
    have h2 := h x List.mem_cons_self
    show ss.getD j 0 ≤ (x :: ss).sum
    rw [List.sum_cons]
    omega
theorem spn_le : ∀ e : Ex, (spn e).1 ≤ (spn e).2
  | .fig _ => Int.le_refl _
  | .reg _ => by
    show (-1000 : Int) ≤ 1000
    decide
  | .share _ => by
    show (0 : Int) ≤ 1000
    decide
  | .two w a b => by
    have ha := spn_le a
    have hb := spn_le b
    show (js w (spn a) (spn b)).1 ≤ (js w (spn a) (spn b)).2
    cases w with
    | sum => show _ + _ ≤ _ + _; omega
    | less => show _ - _ ≤ _ - _; omega
    | least => show mn _ _ ≤ mn _ _; unfold mn; split <;> split <;> omega
    | most => show mx _ _ ≤ mx _ _; unfold mx; split <;> split <;> omega
  | .times f a => by
    show mn _ _ ≤ mx _ _
    unfold mn mx
    split <;> split <;> omega
  | .by _ a => by
    have h1 : 0 ≤ ab (spn a).1 := by unfold ab; split <;> omega
    have h2 := le_mx (ab (spn a).1) (ab (spn a).2)
    show -1000 * _ ≤ 1000 * _
    omega
  | .when _ _ a b => by
    have ha := spn_le a
    have h1 := mn_le (spn a).1 (spn b).1
    have h2 := le_mx (spn a).2 (spn b).2
    show mn _ _ ≤ mx _ _
    omega
  | .whr _ _ a b => by
    have ha := spn_le a
    have h1 := mn_le (spn a).1 (spn b).1
    have h2 := le_mx (spn a).2 (spn b).2
    show mn _ _ ≤ mx _ _
    omega
theorem mulr_le {a b n : Int} (h : a ≤ b) (hn : 0 ≤ n) : a * n ≤ b * n := Int.mul_le_mul_of_nonneg_right h hn
theorem in_span {many : Nat} {rs ss : List Int} (hr : rs.length = 4) (hrb : ∀ x ∈ rs, -1000 ≤ x ∧ x ≤ 1000) (hs : ss.length = many) (hsb : ∀ x ∈ ss, 0 ≤ x) : ∀ e : Ex, ExOk many e → (spn e).1 * ss.sum ≤ wo rs ss e ∧ wo rs ss e ≤ (spn e).2 * ss.sum
  | .fig c, _ => ⟨Int.le_refl _, Int.le_refl _⟩
  | .reg i, o => by
    have hn := sum_nonneg hsb
    have h := hrb _ (getD_mem (ns := rs) (i := i) (by rw [hr]; exact o))
    exact ⟨mulr_le h.1 hn, mulr_le h.2 hn⟩
  | .share j, o => by
    have o : j < many := o
    have h1 := le_sum (j := j) hsb (by omega)
    have h2 := hsb _ (getD_mem (ns := ss) (i := j) (by omega))
    show 0 * ss.sum ≤ 1000 * ss.getD j 0 ∧ 1000 * ss.getD j 0 ≤ 1000 * ss.sum
    omega
  | .two w a b, o => by
    have ha := in_span hr hrb hs hsb a o.1
    have hb := in_span hr hrb hs hsb b o.2
    have hn := sum_nonneg hsb
    show (js w (spn a) (spn b)).1 * ss.sum ≤ jw w (wo rs ss a) (wo rs ss b) ∧ jw w (wo rs ss a) (wo rs ss b) ≤ (js w (spn a) (spn b)).2 * ss.sum
    cases w with
    | sum =>
      show ((spn a).1 + (spn b).1) * ss.sum ≤ wo rs ss a + wo rs ss b ∧ wo rs ss a + wo rs ss b ≤ ((spn a).2 + (spn b).2) * ss.sum
      rw [Int.add_mul, Int.add_mul]
      omega
    | less =>
      show ((spn a).1 - (spn b).2) * ss.sum ≤ wo rs ss a - wo rs ss b ∧ wo rs ss a - wo rs ss b ≤ ((spn a).2 - (spn b).1) * ss.sum
      rw [Int.sub_mul, Int.sub_mul]
      omega
    | least =>
      have h1 := mn_le (spn a).1 (spn b).1
      have h3 := mulr_le h1.1 hn
      have h4 := mulr_le h1.2 hn
      have h5 := mn_or (spn a).2 (spn b).2
      show mn (spn a).1 (spn b).1 * ss.sum ≤ (if wo rs ss b < wo rs ss a then wo rs ss b else wo rs ss a) ∧ (if wo rs ss b < wo rs ss a then wo rs ss b else wo rs ss a) ≤ mn (spn a).2 (spn b).2 * ss.sum
      rcases h5 with h5 | h5 <;> rw [h5] <;> split <;> omega
    | most =>
      have h1 := le_mx (spn a).2 (spn b).2
      have h3 := mulr_le h1.1 hn
      have h4 := mulr_le h1.2 hn
      have h5 := mx_or (spn a).1 (spn b).1
      show mx (spn a).1 (spn b).1 * ss.sum ≤ (if wo rs ss b > wo rs ss a then wo rs ss b else wo rs ss a) ∧ (if wo rs ss b > wo rs ss a then wo rs ss b else wo rs ss a) ≤ mx (spn a).2 (spn b).2 * ss.sum
      rcases h5 with h5 | h5 <;> rw [h5] <;> split <;> omega
  | .times f a, o => by
    have ha := in_span hr hrb hs hsb a o.2
    have hn := sum_nonneg hsb
    have m1 := mn_le (f * (spn a).1) (f * (spn a).2)
    have m2 := le_mx (f * (spn a).1) (f * (spn a).2)
    have n1 := mulr_le m1.1 hn
    have n2 := mulr_le m1.2 hn
    have n3 := mulr_le m2.1 hn
    have n4 := mulr_le m2.2 hn
    rw [Int.mul_assoc] at n1 n2 n3 n4
    show mn _ _ * ss.sum ≤ f * wo rs ss a ∧ f * wo rs ss a ≤ mx _ _ * ss.sum
    rcases Int.le_total 0 f with hf | hf
    · have p1 := Int.mul_le_mul_of_nonneg_left ha.1 hf
      have p2 := Int.mul_le_mul_of_nonneg_left ha.2 hf
      omega
    · have p1 := Int.mul_le_mul_of_nonpos_left hf ha.1
      have p2 := Int.mul_le_mul_of_nonpos_left hf ha.2
      omega
  | .by i a, o => by
    have ha := in_span hr hrb hs hsb a o.2
    have hn := sum_nonneg hsb
    have hg := hrb _ (getD_mem (ns := rs) (i := i) (by rw [hr]; exact o.1))
    generalize ht : mx (ab (spn a).1) (ab (spn a).2) = t
    have t1 : -t ≤ (spn a).1 ∧ (spn a).2 ≤ t := by
      have h2 := le_mx (ab (spn a).1) (ab (spn a).2)
      rw [ht] at h2
      have h3 : -(spn a).1 ≤ ab (spn a).1 := by unfold ab; split <;> omega
      have h4 : (spn a).2 ≤ ab (spn a).2 := by unfold ab; split <;> omega
      omega
    have w1 : -(t * ss.sum) ≤ wo rs ss a := by
      have := mulr_le t1.1 hn
      rw [Int.neg_mul] at this
      omega
    have w2 : wo rs ss a ≤ t * ss.sum := by
      have := mulr_le t1.2 hn
      omega
    show (-1000 * mx (ab (spn a).1) (ab (spn a).2)) * ss.sum ≤ rs.getD i 0 * wo rs ss a ∧ rs.getD i 0 * wo rs ss a ≤ (1000 * mx (ab (spn a).1) (ab (spn a).2)) * ss.sum
    rw [ht, Int.mul_assoc, Int.mul_assoc]
    generalize rs.getD i 0 = g at *
    generalize t * ss.sum = T at *
    generalize wo rs ss a = x at *
    have hT : 0 ≤ T := by omega
    rcases Int.le_total 0 g with hgn | hgn
    · have p1 := Int.mul_le_mul_of_nonneg_left w1 hgn
      have p2 := Int.mul_le_mul_of_nonneg_left w2 hgn
      have p3 := Int.mul_le_mul_of_nonneg_right hg.2 hT
      rw [Int.mul_neg] at p1
      omega
    · have p1 := Int.mul_le_mul_of_nonpos_left hgn w1
      have p2 := Int.mul_le_mul_of_nonpos_left hgn w2
      have p3 := Int.mul_le_mul_of_nonneg_right hg.1 hT
      rw [Int.mul_neg] at p1
      omega
  | .when i c a b, o => by
    have ha := in_span hr hrb hs hsb a o.2.2.1
    have hb := in_span hr hrb hs hsb b o.2.2.2
    have hn := sum_nonneg hsb
    have m1 := mn_le (spn a).1 (spn b).1
    have m2 := le_mx (spn a).2 (spn b).2
    have n1 := mulr_le m1.1 hn
    have n2 := mulr_le m1.2 hn
    have n3 := mulr_le m2.1 hn
    have n4 := mulr_le m2.2 hn
    show mn _ _ * ss.sum ≤ (if rs.getD i 0 < c then wo rs ss a else wo rs ss b) ∧ (if rs.getD i 0 < c then wo rs ss a else wo rs ss b) ≤ mx _ _ * ss.sum
    split <;> omega
  | .whr j c a b, o => by
    have ha := in_span hr hrb hs hsb a o.2.2.1
    have hb := in_span hr hrb hs hsb b o.2.2.2
    have hn := sum_nonneg hsb
    have m1 := mn_le (spn a).1 (spn b).1
    have m2 := le_mx (spn a).2 (spn b).2
    have n1 := mulr_le m1.1 hn
    have n2 := mulr_le m1.2 hn
    have n3 := mulr_le m2.1 hn
    have n4 := mulr_le m2.2 hn
    show mn _ _ * ss.sum ≤ (if 1000 * ss.getD j 0 < c * ss.sum then wo rs ss a else wo rs ss b) ∧ (if 1000 * ss.getD j 0 < c * ss.sum then wo rs ss a else wo rs ss b) ≤ mx _ _ * ss.sum
    split <;> omega

/-! ### promises -/
def spAround (K : PySem.W.Frag) : Sp := fun vs H Q _ => ∃ (a : Addr) (many n : Nat), vs = [.ref a, .int (many : Int)] ∧ 2 ≤ many ∧ many ≤ 3 ∧ HandAt H a n ∧ n ≤ 999998000 ∧
  ∀ H' p xs cs, But a H H' → HandAt H' a (n + 90) → p ≠ a → H' p = some (.lst xs) → CtxsAt K H' xs cs → (∀ c ∈ cs, c.ok many) → cs.length ≤ 4 → Q (.ref p) H'
def spPut (K : PySem.W.Frag) : Sp := fun vs H Q _ => ∃ (p : Addr) (v : V) (xs : List V) (cs : List Cx1) (e : Ex), vs = [.ref p, v] ∧ H p = some (.lst xs) ∧ CtxsAt K H xs cs ∧ ExAt K H e v ∧ ∀ H' u, Same H H' → ExAt K H' (putAll cs e) u → Q u H'
def spFac (K : PySem.W.Frag) (many : Nat) : Sp := fun vs H Q _ => ∃ (p : Addr) (r : V) (xs : List V) (cs : List Cx1) (rs : List Int), vs = [.ref p, r] ∧ H p = some (.lst xs) ∧ CtxsAt K H xs cs ∧ (∀ c ∈ cs, c.ok many) ∧ RegsAt K H rs r ∧ Q (.int (fac rs cs)) H
end NG

namespace NG
open PySem PySem.Spec PyProof.Rows L2

/-! ### promises that are kept while no repr is under way -/
structure FnG (P : Program) (w : World) (K : PySem.W.Frag) (mg : Str → Option Value) (base : Heap) (k : Nat) (f : Addr) (fd : FuncData) (ps : List Str) (sp : Sp) : Prop where
  len : ∀ vs H Q E, sp vs H Q E → vs.length = ps.length
  run : ∀ (A : Around) (outer : List Env) (s : Shared) (H : Hp) (args : Args) (us : List Value) (vs : List V) (Q : VK), A.guards = some [] → Room k A → Env0 P w K mg base A outer s H → BindsTo s fd args (ps.zip us) → Vals vs us → sp vs H Q E0 →
    codeAny (model P w) A (.call (.ref f) args) (CR CX0 outer P w H s Q E0) s
theorem FnG.of {P : Program} {w : World} {K : PySem.W.Frag} {mg : Str → Option Value} {base : Heap} {k : Nat} {f : Addr} {fd : FuncData} {ps : List Str} {sp : Sp} (F : FnOk P w K mg base CX0 k f fd ps sp) : FnG P w K mg base k f fd ps sp :=
  ⟨F.len, fun A outer s H args us vs Q _ hr he hb hv hs => F.run A outer s H args us vs Q E0 hr he hb hv hs⟩
theorem fnG {P : Program} {w : World} {K : PySem.W.Frag} {mg : Str → Option Value} {base : Heap} {x qual : Str} {st : Stmt} {f : Addr} {fd : FuncData} {N ps : List Str} {k : Nat} {sp : Sp} (F : Fun K x qual st f fd) (S : FnScope N ps (defScope st)) (len : ∀ vs H Q E, sp vs H Q E → vs.length = ps.length)
    (walk : ∀ (cdv : Value) (A : Around) (outer : List Env) (s : Shared) (H : Hp) (vs : List V) (Q : VK), A.guards = some [] → Room k (A.deeper (envOfC qual (defScope st) s.heap.objs.size f cdv)) → sp vs H Q E0 →
      ∃ t, PSs (cxOf CX0 P w K mg base N qual (defScope st) f cdv A outer s H E0).nox (defBody st) t ∧ t { nx := fun _ H' => Q .non H', rt := Q } (start N vs) H) : FnG P w K mg base (k + 1) f fd ps sp := by
  obtain ⟨oc, od, kV, doc, pm, an, cdv, ct, osl, rfl, lk, hcd⟩ := F.ex
  refine ⟨len, fun A outer s H args us vs Q hg hr e0 bd rv hs => ?_⟩
  have inK : K.In s.heap := e0.mod.kin.keeps fun b o e => (e0.bs b o e).1
  have nolim : s.heap.NoLimit := e0.mod.nolimit.keeps fun b o e => (e0.bs b o e).1
  refine codeAny_call_function hr.depth (inK _ _ lk) rfl S.co S.gen rfl (PySem.W.codeRec_of inK hcd) (bd _ _ _ _ ?_)
  refine wpAny_newFunctionEnv_cells S.kind (fun y hy => ?_) fun env he s1 ic => ?_
  · obtain ⟨n, v⟩ := y
    rcases S.par n (List.of_mem_zip hy).1 with z | z
    · exact .inl z
    · exact .inr ⟨z, PySem.W.cellsFrom_some _ _ _ (.inl z)⟩
  subst he
  refine ⟨nolim.keeps ic.toInCall.keep, codeAny_func ?_⟩
  obtain ⟨t, ht, hq⟩ := walk cdv A outer s H vs Q hg (hr.deeper _) hs
  have I := inv_start (CX := CX0) (E := E0) S hr.hd e0 (len _ _ _ _ hs) rv ic
  refine wpAny_mono (ht.nox.run [] s1 (start N vs) H _ I hq) (fun fl s' hf => ?_) fun e s' hf => hf
  match fl, hf with
  | .ret u, ⟨v, σ', H', J, r, q⟩ => exact ⟨v, H', J.os, J.bare, J.base, J.hok, r, q⟩
  | .next, ⟨σ', H', J, q⟩ => exact ⟨.non, H', J.os, J.bare, J.base, J.hok, rfl, q⟩
  | .brk, ⟨_, _, _, q⟩ => exact q.elim
  | .cont, ⟨_, _, _, q⟩ => exact q.elim

structure CalG (P : Program) (w : World) (K : PySem.W.Frag) (mg : Str → Option Value) (base : Heap) (k : Nat) (x : Str) (sp : Sp) : Prop where
  ex : ∃ (f : Addr) (fd : FuncData) (ps : List Str), FnG P w K mg base k f fd ps sp ∧ mg x = some (.ref f) ∧ PySem.W.keepIn K (.ref f) = true ∧ Binds K fd ps []
theorem Cal.g {P : Program} {w : World} {K : PySem.W.Frag} {mg : Str → Option Value} {base : Heap} {k : Nat} {x : Str} {sp : Sp} (c : Cal P w K mg base k x sp) : CalG P w K mg base k x sp := by
  obtain ⟨f, fd, ps, F, r⟩ := c.ex
  exact ⟨f, fd, ps, .of F, r⟩
section
variable {X : Cx} {k j : Nat} {x : Str} {sp : Sp} {p pos : Pos} {e : Expr} {es : List Expr} {t : TA}
theorem pe_g (c : CalG X.prog X.w X.K X.mg X.base k x sp) (hgd : X.A.guards = some []) (hr : Room j X.A) (hk : k ≤ j) (hg : Gl X x) (ha : PA X (e :: es) t)
    (hdb : (x == ("__debug__" : Str)) = false := by decide) (he : starEach (e :: es) X.env = (false, eval e X.env) :: starEach es X.env := by rfl) (hpl : (backTo pos (starEach es X.env)).any (·.1) = false := by rfl) :
    PE X (.Call (.Name x p) (e :: es) [] pos) (tCall sp [] E0 t) := by
  obtain ⟨f, fd, ps, F, hm, kp, b⟩ := c.ex
  refine ⟨fun pins s σ H Q I h => wpAny_Call_Name_kw (ld_glob I hg hm ?_ hdb)⟩
  refine PySem.W.callWith_K (h₀ := X.base) I.ok.mod.kin kp (thn (ha.run pos pins s σ H _ I h) fun us s1 ⟨vs, H1, I1, r, q⟩ => ⟨I1.kIn, ?_⟩) he hpl
  have q : sp (vs ++ []) H1 Q E0 := q
  rw [List.append_nil] at q
  have hl : (us ++ []).length = ps.length := by
    rw [List.append_nil, ← r.length]
    exact F.len _ _ _ _ q
  have bd := b s1 us I1.kIn hl
  rw [List.append_nil] at bd
  refine wpAny_call (codeAny_mono (F.run X.A X.stack s1 H1 ⟨us, []⟩ us vs Q hgd (hr.mono hk) I1.env0 bd r q) fun res s' hq => ?_)
  match res, hq with
  | .ok (.ret u), hq => exact I1.after hq
  | .ok .next, hq => exact False.elim hq
  | .ok .brk, hq => exact False.elim hq
  | .ok .cont, hq => exact False.elim hq
  | .error e, hq => exact False.elim hq
end

/-! ### the law's call -/
theorem lawG {P : Program} {w : World} {K : PySem.W.Frag} {mg mb : Str → Option Value} {k : Nat} {fa a : Addr} {fd : FuncData} {x : Str} {sp : Sp} {st : Shared} {vs : List Value} {ns : List Int}
    (inK : K.In st.heap) (gl : st.heap.Ns mainGlobals mg) (bl : st.heap.Ns builtinsNs mb) (blt : ∀ y : Str, y ≠ "__name__" → mb y = bootBuiltins y) (lim : st.heap.NoLimit) (gens : st.gens = #[])
    (at0 : st.heap.get? a = some { cls := .type "list", data := .seq vs.toArray }) (hint : IntsAre vs ns) (short : ns.length ≤ sizeLine) (room : Room k callerA)
    (F : ∀ base : Heap, K.In base → base.Ns mainGlobals mg → FnG P w K mg base k fa fd [x] sp) (bind : ∀ (s : Shared) (u : Value), BindsTo s fd ⟨[u], []⟩ [(x, u)])
    (prom : ∀ H : Hp, Only H → SqL K H a (ns.map V.int) → sp [.ref a] H (fun v _ => v = .bl true) E0) :
    codeAny (model P w) callerA (.call (.ref fa) ⟨[.ref a], []⟩) (fun r s' => r = .ok (.ret (.bool true)) ∧ OldK st.heap s'.heap ∧ s'.os = st.os ∧ AllBare s'.gens) st := by
  have rel := vals_ints hint
  have go : ∀ H : Hp, Only H → SqL K H a (ns.map V.int) → HOk P w H st.heap → (∀ b, H b ≠ none → b = a ∧ K.lookup b = none) →
      codeAny (model P w) callerA (.call (.ref fa) ⟨[.ref a], []⟩) (fun r s' => r = .ok (.ret (.bool true)) ∧ OldK st.heap s'.heap ∧ s'.os = st.os ∧ AllBare s'.gens) st := by
    intro H on sq ok sole
    have dicts : ∀ {b : Addr} {o : Obj} {es : Array DictEntry} {ep : Nat}, st.heap.get? b = some o → o.data = .dict es ep → H b = none := by
      intro b o es ep e d
      by_cases z : H b = none
      · exact z
      · obtain ⟨rfl, _⟩ := sole b z
        rw [at0] at e
        cases e
        cases d
    have names : ∀ {b : Addr} {m : Str → Option Value}, st.heap.Ns b m → (hidT st.heap H).Ns b m := by
      rintro b m ⟨o, es, ep, e, d, r⟩
      exact ⟨o, es, ep, hidT_get e (dicts e d), d, r⟩
    have kin : K.In (hidT st.heap H) := by
      intro b o e
      refine hidT_get (inK b o e) ?_
      by_cases z : H b = none
      · exact z
      · rw [(sole b z).2] at e
        cases e
    have md : Mod K mg (hidT st.heap H) := by
      obtain ⟨mc, l1, l2⟩ := lim
      exact ⟨kin, names gl, ⟨mb, names bl, blt⟩, ⟨mc, names l1, l2⟩⟩
    have env : Env0 P w K mg (hidT st.heap H) callerA [] st H :=
      ⟨rfl, md, fun b o e => of_hidT e, Nat.le_of_eq (hidT_size _ _), trivial, fun b z => absurd (show b ∈ ([] : List Addr) from z) (by simp), ok, .of_eq gens⟩
    refine codeAny_mono ((F _ kin (names gl)).run callerA [] st H ⟨[.ref a], []⟩ [.ref a] [.ref a] _ rfl room env (bind st (.ref a)) (.cons rfl .nil) (prom H on sq)) fun res s' hq => ?_
    match res, hq with
    | .ok .next, hq => exact False.elim hq
    | .ok .brk, hq => exact False.elim hq
    | .ok .cont, hq => exact False.elim hq
    | .error e, hq => exact False.elim hq
    | .ok (.ret u), ⟨v, H', os, bare, un, ok', r, q⟩ =>
      have q : v = .bl true := q
      subst q
      have r : u = Value.bool true := r
      subst r
      refine ⟨rfl, OldK.of_keep fun b o e => ?_, os, bare⟩
      by_cases z : H b = none
      · exact un.keep b o e z (fun y => absurd (show b ∈ ([] : List Addr) from y) (by simp)) (by simp)
      · rcases on b with y | ⟨ob, xs, y⟩
        · exact absurd y z
        · obtain ⟨p1, _⟩ := ok b _ y
          obtain ⟨p2, _⟩ := ok' b _ (un.frzs b ob _ y)
          rw [e] at p1
          cases p1
          exact p2
  by_cases hk : K.lookup a = none
  · refine go (upd (fun _ => none) a (.frz { cls := .type "list", data := .seq vs.toArray } (.lst (ns.map V.int)))) (fun b => ?_) (.inl (.inr ⟨_, upd_same⟩)) (fun b u z => ?_) (fun b z => ?_)
    · by_cases hb : b = a
      · subst hb
        exact .inr ⟨_, _, upd_same⟩
      · exact .inl (upd_ne hb)
    · by_cases hb : b = a
      · subst hb
        rw [upd_same] at z
        cases z
        exact ⟨at0, by rw [List.length_map]; exact short, vs, _, rel, at0⟩
      · rw [upd_ne hb] at z
        cases z
    · by_cases hb : b = a
      · subst hb
        exact ⟨rfl, hk⟩
      · exact absurd (upd_ne hb) z
  · obtain ⟨o, ho⟩ := Option.ne_none_iff_exists'.mp hk
    have e := inK a o ho
    rw [at0] at e
    cases e
    refine go (fun _ => none) (fun _ => .inl rfl) (.inr ⟨_, vs.toArray, _, ho, rfl, rfl, rfl, ?_, by simpa using rel⟩) (fun b u z => by cases z) (fun b z => absurd rfl z)
    rw [List.size_toArray, hint.length]
    exact short
theorem walkG {l : PySem.W.OpenLaw} {n k : Nat} {q : Program} {loose : List Str} {XP : (Str → Option Value) → Heap → Prop} {YP : World → Heap → Prop} {d : DefRec} {K : Params → PySem.W.Frag} {sp : World → Sp} {x : Str}
    (hn : l.most = some n) (hn2 : n ≤ sizeLine) (hdf : d.params.defaults = []) (hr : Room k callerA) (hY : ∀ (w : World) (h : Heap), YP w h → (K w.params).In h)
    (F : ∀ (w : World) (mg : Str → Option Value) (fa : Addr) (h : Heap), (K w.params).In h → h.Ns mainGlobals mg → mg d.name = some (.ref fa) →
      ∃ fd : FuncData, (∀ (s : Shared) (u : Value), BindsTo s fd ⟨[u], []⟩ [(x, u)]) ∧ ∀ base : Heap, (K w.params).In base → base.Ns mainGlobals mg → FnG l.prog w (K w.params) mg base k fa fd [x] (sp w))
    (hsp : ∀ (w : World) (H : Hp) (a : Addr) (ns : List Int), ns.length ≤ n → Only H → SqL (K w.params) H a (ns.map V.int) → sp w [.ref a] H (fun v _ => v = .bl true) E0) :
    PySem.W.WalkO q loose XP YP l.row.toRowW d [] (fun f vs => PySem.call f vs) := by
  refine Att.attach_call hn hdf fun w s0 s1 mg mb fa o pm cd doc a vs ns G Y _ _ _ hmg hobj hints hlen hg => ?_
  have inK := hY w _ Y
  obtain ⟨fd, hb, hF⟩ := F w mg fa _ inK G.T.g hmg
  exact lawG inK G.T.g G.T.b G.T.builtins G.T.nolimit hg hobj hints (Nat.le_trans hlen hn2) hr hF hb fun H on sq => hsp w H a ns hlen on sq

/-! ### repr -/
mutual
theorem Dp_nodict {K : PySem.W.Frag} {H : Hp} : ∀ {d : PyData} {v : V}, Dp K H v d → d.hasDict = false
  | .none, _, _ => by simp only [PyData.hasDict]
  | .bool _, _, _ => by simp only [PyData.hasDict]
  | .int _, _, _ => by simp only [PyData.hasDict]
  | .str _, _, _ => by simp only [PyData.hasDict]
  | .list ds, _, h => by
    cases h with
    | lst _ h => simp only [PyData.hasDict, DpAll_nodict h]
  | .tuple ds, _, h => by
    cases h with
    | tup _ h => simp only [PyData.hasDict, DpAll_nodict h]
  | .dict _, _, h => by cases h
theorem DpAll_nodict {K : PySem.W.Frag} {H : Hp} : ∀ {ds : List PyData} {vs : List V}, DpAll K H vs ds → PyData.hasDictAll ds = false
  | [], _, _ => by simp only [PyData.hasDictAll]
  | d :: ds, _, h => by
    cases h with
    | cons h1 h2 => simp only [PyData.hasDictAll, Dp_nodict h1, DpAll_nodict h2, Bool.or_self]
end
def rRepr (K : PySem.W.Frag) : List V → Hp → VK → Prop := fun vs H Q => ∃ (p : Addr) (d : PyData), vs = [.ref p] ∧ Dp K H (.ref p) d ∧ d.showable = true ∧ d.depth ≤ 60 ∧ d.shown.length ≤ sizeLine ∧ Q (.str d.shown) H
theorem cr_repr {X : Cx} (hg : X.A.guards = some []) (hu : X.A.units + 64 < cLine) : CallR X (.builtin "repr") (rRepr X.K) := by
  intro pins s σ H vs us Q I r h
  obtain ⟨p, d, rfl, hd, hs, hz, hl, q⟩ := h
  rw [Vals.ref1 r]
  obtain ⟨as, rd⟩ := Dp.reads I d (.ref p) (.ref p) hd rfl
  exact repr_of_reads' rd hs (PyData.noDict_hsm (Dp_nodict hd)) hg (by omega) (fun _ _ e => e) (fun h' u tk hk => ⟨.str _, H, I.kept hk, ⟨_, rfl⟩, q⟩) hl
end NG

namespace NG
open PySem PySem.Spec PyProof.Rows L2

/-! ### xs[::-1] -/
theorem pe_revL {X : Cx} {e st : Expr} {te ts : TE} {pos p2 : Pos} (he : PE X e te) (hs : PE X st ts) : PE X (.Subscript e (.Slice none none (some st) p2) pos)
    (fun σ H Q => te σ H fun x H1 => ts σ H1 fun y H2 => y = .int (-1) ∧ ∃ a xs, x = .ref a ∧ SqL X.K H2 a xs ∧ ∀ p, H2 p = none → Q (.ref p) (upd H2 p (.lst xs.reverse))) := by
  refine ⟨fun pins s σ H Q I h => ?_⟩
  refine Subscript_ (thn (he.run pins s σ H _ I h) fun v s1 ⟨x, H1, I1, r1, q1⟩ => ?_)
  refine wpAny_Slice ?_
  rw [evalPart_none]
  refine wpAny_pure (wpAny_pure ?_)
  rw [evalPart_some]
  refine thn (hs.run pins s1 σ H1 _ I1 q1) fun vk s2 ⟨y, H2, I2, r2, q2⟩ => ?_
  obtain ⟨rfl, a, xs, rfl, hx, q⟩ := q2
  obtain ⟨t, rfl⟩ := r2
  cases r1
  obtain ⟨its, rv, ht, hz⟩ := I2.list hx
  have I3 : Inv X pins σ H2 { s2 with heap := s2.heap.push { cls := .type "slice", data := .fields #[.none, .none, .int (-1) t] } } := I2.kept (t' := s2.toks) fun b ob q => Heap.get?_push_of_some _ q
  obtain ⟨its', rv', ht', _⟩ := I3.list hx
  have hl := rv'.length
  refine tail_any (ops := [.ref a, .ref s2.heap.objs.size]) ht'.isList.typeIs slot_list_getitem.lookup ?_ (by with_unfolding_all rfl)
  refine wpAny_getItem_list_slice ht'.isList (Heap.IsSliceOf.new ..) .none .none (.int (-1) t) (by decide) ?_ (by rw [List.size_toArray]; omega)
  rw [PySem.W.krv_pick]
  refine ⟨.ref _, _, I3.laid (t' := s2.toks) (o := .lst xs.reverse) (fun b ob q => Heap.get?_push_of_some _ q) (Nat.le_refl _) ?_, rfl, q _ (I3.hok.fresh (Nat.le_refl _))⟩
  refine ⟨by rw [List.length_reverse]; exact hz, its'.reverse, 0, ?_, Heap.get?_push_size _ rfl⟩
  have rev : ∀ {xs : List V} {us : List Value}, Vals xs us → Vals xs.reverse us.reverse := by
    intro xs us r
    induction r with
    | nil => exact .nil
    | cons h t ih =>
      rw [List.reverse_cons, List.reverse_cons]
      exact ih.append (.cons h .nil)
  exact rev rv'

/-! ### calls by keywords alone, handed in from the last parameter to the first -/
theorem Vals.rev {xs : List V} {us : List Value} (r : Vals xs us) : Vals xs.reverse us.reverse := by
  induction r with
  | nil => exact .nil
  | cons h t ih =>
    rw [List.reverse_cons, List.reverse_cons]
    exact ih.append (.cons h .nil)
structure CalK (P : Program) (w : World) (K : PySem.W.Frag) (mg : Str → Option Value) (base : Heap) (k : Nat) (x : Str) (ks : List Str) (sp : Sp) : Prop where
  ex : ∃ (f : Addr) (fd : FuncData), FnG P w K mg base k f fd ks.reverse sp ∧ mg x = some (.ref f) ∧ PySem.W.keepIn K (.ref f) = true ∧ ∀ (s : Shared) (ws : List Value), ws.length = ks.length → BindsTo s fd ⟨[], ks.zip ws⟩ (ks.reverse.zip ws.reverse)
section
variable {X : Cx} {k j : Nat} {x : Str} {ks : List Str} {sp : Sp} {p pos : Pos} {kws : List Keyword} {tk : TA}
theorem pe_kw (c : CalK X.prog X.w X.K X.mg X.base k x ks sp) (hgd : X.A.guards = some []) (hr : Room j X.A) (hk : k ≤ j) (hg : Gl X x) (hkw : PK X kws tk) (hall : (backToKw pos (keywordEach kws X.env)).all (·.1.isSome) = true := by rfl) (hks : (backToKw pos (keywordEach kws X.env)).filterMap (·.1) = ks := by rfl)
    (hdb : (x == ("__debug__" : Str)) = false := by decide) (hpl : ((backTo pos (starEach [] X.env)).any (·.1) || (backToKw pos (keywordEach kws X.env)).any (·.1.isNone)) = false := by rfl) :
    PE X (.Call (.Name x p) [] kws pos) (fun σ H Q => tk σ H fun zs H2 => zs.length = ks.length ∧ sp zs.reverse H2 Q E0) := by
  obtain ⟨f, fd, F, hm, kp, b⟩ := c.ex
  refine ⟨fun pins s σ H Q I h => wpAny_Call_Name_kw (ld_glob I hg hm ?_ hdb)⟩
  refine PySem.W.callWith_KW0 (h₀ := X.base) I.ok.mod.kin kp hall (thn (hkw.run pos pins s σ H _ I h) fun ws s2 ⟨zs, H2, I2, rz, hl, q⟩ => ⟨I2.kIn, ?_⟩) hpl
  rw [hks]
  refine wpAny_call (codeAny_mono (F.run X.A X.stack s2 H2 ⟨[], ks.zip ws⟩ ws.reverse zs.reverse Q hgd (hr.mono hk) I2.env0 (b s2 ws (by rw [← rz.length]; exact hl)) (Vals.rev rz) q) fun res s' hq => ?_)
  match res, hq with
  | .ok (.ret u), hq => exact I2.after hq
  | .ok .next, hq => exact False.elim hq
  | .ok .brk, hq => exact False.elim hq
  | .ok .cont, hq => exact False.elim hq
  | .error e, hq => exact False.elim hq
end

/-! ### an expression as its items -/
inductive Itm where
  | s (x : Str) | i (c : Int) | k (e : Ex)
def ItAt (K : PySem.W.Frag) (H : Hp) : Itm → V → Prop
  | .s x, v => v = .str x
  | .i c, v => v = .int c
  | .k e, v => ExAt K H e v
def ItsAt (K : PySem.W.Frag) (H : Hp) : List V → List Itm → Prop
  | [], [] => True
  | v :: vs, t :: ts => ItAt K H t v ∧ ItsAt K H vs ts
  | _, _ => False
def Ex.items : Ex → List Itm
  | .fig c => [.s "fig", .i c]
  | .reg i => [.s "reg", .i (i : Int)]
  | .share j => [.s "share", .i (j : Int)]
  | .two w a b => [.s (wn w), .k a, .k b]
  | .times f a => [.s "times", .i f, .k a]
  | .by i a => [.s "by", .i (i : Int), .k a]
  | .when i c a b => [.s "when", .i (i : Int), .i c, .k a, .k b]
  | .whr j c a b => [.s "where", .i (j : Int), .i c, .k a, .k b]
def kidsI : List Itm → List Ex
  | [] => []
  | .k e :: r => e :: kidsI r
  | .s _ :: r => kidsI r
  | .i _ :: r => kidsI r
theorem kidsI_items (e : Ex) : kidsI e.items = e.kids := by cases e <;> rfl
theorem kidsI_append : ∀ (l r : List Itm), kidsI (l ++ r) = kidsI l ++ kidsI r
  | [], r => rfl
  | .k e :: l, r => by
    show e :: kidsI (l ++ r) = e :: (kidsI l ++ kidsI r)
    rw [kidsI_append l r]
  | .s _ :: l, r => kidsI_append l r
  | .i _ :: l, r => kidsI_append l r
theorem ExAt.its {K : PySem.W.Frag} {H : Hp} : ∀ {e : Ex} {v : V}, ExAt K H e v → ∃ p xs, v = .ref p ∧ SqT K H p xs ∧ ItsAt K H xs e.items
  | .fig _, _, ⟨p, e, q⟩ => ⟨p, _, e, q, rfl, rfl, trivial⟩
  | .reg _, _, ⟨p, e, q⟩ => ⟨p, _, e, q, rfl, rfl, trivial⟩
  | .share _, _, ⟨p, e, q⟩ => ⟨p, _, e, q, rfl, rfl, trivial⟩
  | .two _ _ _, _, ⟨p, x, y, e, q, a, b⟩ => ⟨p, _, e, q, rfl, a, b, trivial⟩
  | .times _ _, _, ⟨p, x, e, q, a⟩ => ⟨p, _, e, q, rfl, rfl, a, trivial⟩
  | .by _ _, _, ⟨p, x, e, q, a⟩ => ⟨p, _, e, q, rfl, rfl, a, trivial⟩
  | .when _ _ _ _, _, ⟨p, x, y, e, q, a, b⟩ => ⟨p, _, e, q, rfl, rfl, rfl, a, b, trivial⟩
  | .whr _ _ _ _, _, ⟨p, x, y, e, q, a, b⟩ => ⟨p, _, e, q, rfl, rfl, rfl, a, b, trivial⟩
theorem ItsAt.get {K : PySem.W.Frag} {H : Hp} : ∀ {vs : List V} {ts : List Itm} {k : Nat} {v : V}, ItsAt K H vs ts → vs[k]? = some v → ∃ t, ts[k]? = some t ∧ ItAt K H t v
  | [], [], _, _, _, h => by simp at h
  | v' :: vs, t :: ts, 0, v, ⟨x, r⟩, h => by
    have : v' = v := Option.some.inj h
    subst this
    exact ⟨t, rfl, x⟩
  | v' :: vs, t :: ts, k + 1, v, ⟨x, r⟩, h => ItsAt.get (k := k) r h
theorem ItsAt.len {K : PySem.W.Frag} {H : Hp} : ∀ {vs : List V} {ts : List Itm}, ItsAt K H vs ts → vs.length = ts.length
  | [], [], _ => rfl
  | _ :: _, _ :: _, ⟨_, r⟩ => by rw [List.length_cons, List.length_cons, r.len]
theorem tyx_tup {K : PySem.W.Frag} {H : Hp} {p : Addr} {xs : List V} (h : SqT K H p xs) : TyX K H (.ref p) (.type "tuple") := by
  rcases h with (h | ⟨o, h⟩) | ⟨o, its, n, h1, h2, _⟩
  · exact .base (.tup h)
  · exact .fTuple h
  · exact .kTuple h1 h2
def Itm.isK : Itm → Bool
  | .k _ => true
  | _ => false
theorem isi_item {K : PySem.W.Frag} {H : Hp} {t : Itm} {v : V} (h : ItAt K H t v) : ∃ ty, TyX K H v ty ∧ PySem.W.kitOne K ty (.type "tuple") = some t.isK := by
  cases t with
  | s x =>
    have h : v = .str x := h
    subst h
    exact ⟨_, .base (.str x), kit_ty (show kitB "str" "tuple" = some false by decide +kernel)⟩
  | i c =>
    have h : v = .int c := h
    subst h
    exact ⟨_, .base (.int c), kit_ty (show kitB "int" "tuple" = some false by decide +kernel)⟩
  | k e =>
    obtain ⟨p, xs, rfl, hp, _⟩ := ExAt.its h
    exact ⟨_, tyx_tup hp, kit_ty (show kitB "tuple" "tuple" = some true by decide +kernel)⟩

/-! ### as data, for repr -/
def toI : Itm → (Ex → PyData) → PyData
  | .s x, _ => .str x
  | .i c, _ => .int c
  | .k e, f => f e
def toD : Ex → PyData
  | .fig c => .tuple [.str "fig", .int c]
  | .reg i => .tuple [.str "reg", .int (i : Int)]
  | .share j => .tuple [.str "share", .int (j : Int)]
  | .two w a b => .tuple [.str (wn w), toD a, toD b]
  | .times f a => .tuple [.str "times", .int f, toD a]
  | .by i a => .tuple [.str "by", .int (i : Int), toD a]
  | .when i c a b => .tuple [.str "when", .int (i : Int), .int c, toD a, toD b]
  | .whr j c a b => .tuple [.str "where", .int (j : Int), .int c, toD a, toD b]
theorem ExAt.dp {K : PySem.W.Frag} {H : Hp} : ∀ {e : Ex} {v : V}, ExAt K H e v → Dp K H v (toD e)
  | .fig _, _, ⟨p, e, q⟩ => by subst e; exact .tup q (.cons (.str _) (.cons (.int _) .nil))
  | .reg _, _, ⟨p, e, q⟩ => by subst e; exact .tup q (.cons (.str _) (.cons (.int _) .nil))
  | .share _, _, ⟨p, e, q⟩ => by subst e; exact .tup q (.cons (.str _) (.cons (.int _) .nil))
  | .two _ _ _, _, ⟨p, x, y, e, q, a, b⟩ => by subst e; exact .tup q (.cons (.str _) (.cons a.dp (.cons b.dp .nil)))
  | .times _ _, _, ⟨p, x, e, q, a⟩ => by subst e; exact .tup q (.cons (.str _) (.cons (.int _) (.cons a.dp .nil)))
  | .by _ _, _, ⟨p, x, e, q, a⟩ => by subst e; exact .tup q (.cons (.str _) (.cons (.int _) (.cons a.dp .nil)))
  | .when _ _ _ _, _, ⟨p, x, y, e, q, a, b⟩ => by subst e; exact .tup q (.cons (.str _) (.cons (.int _) (.cons (.int _) (.cons a.dp (.cons b.dp .nil)))))
  | .whr _ _ _ _, _, ⟨p, x, y, e, q, a, b⟩ => by subst e; exact .tup q (.cons (.str _) (.cons (.int _) (.cons (.int _) (.cons a.dp (.cons b.dp .nil)))))
/-- short enough to be shown: every number below 2 ^ 600, every sign small -/
structure Shw (d : PyData) (w k : Nat) : Prop where
  sh : d.showable = true
  lf : d.leavesShort 700 = true
  wt : d.weight ≤ w
  dp : d.depth ≤ k
theorem log_of {i : Int} (h : i.natAbs < 2 ^ 600) : i.natAbs.log2 < 600 := PySem.Flt.log2_lt_of (by decide) h
theorem Shw.int {i : Int} (h : i.natAbs < 2 ^ 600) : Shw (.int i) 601 0 := by
  have hl := log_of h
  refine ⟨?_, ?_, ?_, Nat.le_refl _⟩
  · show decide (i.natAbs.log2 < 1920) = true
    exact decide_eq_true (by omega)
  · show decide ((PyData.shown (.int i)).length ≤ 700) = true
    refine decide_eq_true ?_
    have e := int_text_length_le (k := 600) (by decide) hl
    show (Str.ofString (toString i)).length ≤ 700
    rw [PySem.ofString_length]
    omega
  · show (if i == 0 then 0 else i.natAbs.log2 + 1) ≤ 601
    split <;> omega
theorem Shw.small {i : Int} (h : i.natAbs < 2 ^ 15) : Shw (.int i) 15 0 := by
  have hl : i.natAbs.log2 < 15 := PySem.Flt.log2_lt_of (by decide) h
  have h6 := Shw.int (i := i) (Nat.lt_of_lt_of_le h (Nat.pow_le_pow_right (by decide) (by decide)))
  refine ⟨h6.sh, h6.lf, ?_, Nat.le_refl _⟩
  show (if i == 0 then 0 else i.natAbs.log2 + 1) ≤ 15
  split <;> omega
theorem Shw.str {x : Str} (h : (x.cps.toList.all fun c => decide (c < 16 ^ 8)) = true) (hl : x.cps.size ≤ 10) : Shw (.str x) 10 0 := ⟨rfl, h, hl, Nat.le_refl _⟩
structure ShwAll (ds : List PyData) (w k : Nat) : Prop where
  sh : PyData.showableAll ds = true
  lf : PyData.leavesShortAll 700 ds = true
  wt : PyData.weightAll ds ≤ w
  dp : PyData.depthAll ds ≤ k
theorem ShwAll.nil {k : Nat} : ShwAll [] 0 k := ⟨rfl, rfl, Nat.le_refl _, Nat.zero_le _⟩
theorem ShwAll.cons {d : PyData} {ds : List PyData} {w1 w2 k1 k2 k : Nat} (h1 : Shw d w1 k1) (h2 : ShwAll ds w2 k2) (hk1 : k1 ≤ k) (hk2 : k2 ≤ k) : ShwAll (d :: ds) (w1 + 1 + w2) k := by
  refine ⟨?_, ?_, ?_, ?_⟩
  · show (d.showable && PyData.showableAll ds) = true
    rw [h1.sh, h2.sh]
    rfl
  · show (d.leavesShort 700 && PyData.leavesShortAll 700 ds) = true
    rw [h1.lf, h2.lf]
    rfl
  · show d.weight + 1 + PyData.weightAll ds ≤ _
    have := h1.wt
    have := h2.wt
    omega
  · show max d.depth (PyData.depthAll ds) ≤ k
    have := h1.dp
    have := h2.dp
    omega
theorem ShwAll.tup {ds : List PyData} {w k : Nat} (h : ShwAll ds w k) : Shw (.tuple ds) w (k + 1) := ⟨h.sh, h.lf, h.wt, by show PyData.depthAll ds + 1 ≤ k + 1; have := h.dp; omega⟩
theorem ShwAll.lst {ds : List PyData} {w k : Nat} (h : ShwAll ds w k) : Shw (.list ds) w (k + 1) := ⟨h.sh, h.lf, h.wt, by show PyData.depthAll ds + 1 ≤ k + 1; have := h.dp; omega⟩
theorem Shw.mono {d : PyData} {w w' k k' : Nat} (h : Shw d w k) (hw : w ≤ w') (hk : k ≤ k') : Shw d w' k' := ⟨h.sh, h.lf, Nat.le_trans h.wt hw, Nat.le_trans h.dp hk⟩
theorem Shw.fits {d : PyData} {w k : Nat} (h : Shw d w k) (hw : w ≤ 20000) : d.shown.length ≤ sizeLine := by
  have := PyData.shown_le 700 (by decide) d h.lf
  have := h.wt
  have e : sizeLine = 16777216 := by decide
  omega
def wgt : Nat → Nat
  | 0 => 0
  | n + 1 => 2 * wgt n + 60
theorem wgt_mono : ∀ {m n : Nat}, m ≤ n → wgt m ≤ wgt n
  | 0, _, _ => Nat.zero_le _
  | m + 1, 0, h => absurd h (by omega)
  | m + 1, n + 1, h => by
    have := wgt_mono (m := m) (n := n) (by omega)
    show 2 * wgt m + 60 ≤ 2 * wgt n + 60
    omega
theorem shw_ex {many : Nat} (hm : many ≤ 1000) : ∀ {e : Ex}, ExOk many e → Shw (toD e) (wgt e.dep) e.dep
  | .fig c, o => (ShwAll.tup (.cons (.str (by decide) (by decide)) (.cons (.small (by have := o.1; have := o.2; omega)) .nil (Nat.le_refl 0) (Nat.le_refl 0)) (Nat.le_refl 0) (Nat.le_refl 0))).mono (show _ ≤ wgt 1 by decide) (show 0 + 1 ≤ 1 by decide)
  | .reg i, o => by
    have o : i < 4 := o
    exact (ShwAll.tup (.cons (.str (by decide) (by decide)) (.cons (.small (by omega)) .nil (Nat.le_refl 0) (Nat.le_refl 0)) (Nat.le_refl 0) (Nat.le_refl 0))).mono (show _ ≤ wgt 1 by decide) (show 0 + 1 ≤ 1 by decide)
  | .share j, o => by
    have o : j < many := o
    exact (ShwAll.tup (.cons (.str (by decide) (by decide)) (.cons (.small (by omega)) .nil (Nat.le_refl 0) (Nat.le_refl 0)) (Nat.le_refl 0) (Nat.le_refl 0))).mono (show _ ≤ wgt 1 by decide) (show 0 + 1 ≤ 1 by decide)
  | .two w a b, o => by
    have ha := shw_ex hm (e := a) o.1
    have hb := shw_ex hm (e := b) o.2
    have hw : Shw (.str (wn w)) 10 0 := by cases w <;> exact .str (by decide) (by decide)
    have h1 := wgt_mono (Nat.le_max_left a.dep b.dep)
    have h2 := wgt_mono (Nat.le_max_right a.dep b.dep)
    refine (ShwAll.tup (.cons hw (.cons ha (.cons hb .nil (Nat.le_refl _) (Nat.zero_le _)) (Nat.le_max_left a.dep b.dep) (Nat.le_max_right a.dep b.dep)) (Nat.zero_le _) (Nat.le_refl _))).mono ?_ (Nat.le_refl _)
    show 10 + 1 + (wgt a.dep + 1 + (wgt b.dep + 1 + 0)) ≤ 2 * wgt (max a.dep b.dep) + 60
    omega
  | .times f a, o => by
    have ha := shw_ex hm (e := a) o.2
    refine (ShwAll.tup (.cons (.str (by decide) (by decide)) (.cons (.small (by have := o.1; omega)) (.cons ha .nil (Nat.le_refl _) (Nat.zero_le _)) (Nat.zero_le _) (Nat.le_refl _)) (Nat.zero_le _) (Nat.le_refl _))).mono ?_ (Nat.le_refl _)
    show 10 + 1 + (15 + 1 + (wgt a.dep + 1 + 0)) ≤ 2 * wgt a.dep + 60
    omega
  | .by i a, o => by
    have ha := shw_ex hm (e := a) o.2
    refine (ShwAll.tup (.cons (.str (by decide) (by decide)) (.cons (.small (by have := o.1; omega)) (.cons ha .nil (Nat.le_refl _) (Nat.zero_le _)) (Nat.zero_le _) (Nat.le_refl _)) (Nat.zero_le _) (Nat.le_refl _))).mono ?_ (Nat.le_refl _)
    show 10 + 1 + (15 + 1 + (wgt a.dep + 1 + 0)) ≤ 2 * wgt a.dep + 60
    omega
  | .when i c a b, o => by
    have ha := shw_ex hm (e := a) o.2.2.1
    have hb := shw_ex hm (e := b) o.2.2.2
    have h1 := wgt_mono (Nat.le_max_left a.dep b.dep)
    have h2 := wgt_mono (Nat.le_max_right a.dep b.dep)
    refine (ShwAll.tup (.cons (.str (by decide) (by decide)) (.cons (.small (by have := o.1; omega)) (.cons (.small (by have := o.2.1; omega)) (.cons ha (.cons hb .nil (Nat.le_refl _) (Nat.zero_le _)) (Nat.le_max_left a.dep b.dep) (Nat.le_max_right a.dep b.dep)) (Nat.zero_le _) (Nat.le_refl _)) (Nat.zero_le _) (Nat.le_refl _)) (Nat.zero_le _) (Nat.le_refl _))).mono ?_ (Nat.le_refl _)
    show 10 + 1 + (15 + 1 + (15 + 1 + (wgt a.dep + 1 + (wgt b.dep + 1 + 0)))) ≤ 2 * wgt (max a.dep b.dep) + 60
    omega
  | .whr i c a b, o => by
    have ha := shw_ex hm (e := a) o.2.2.1
    have hb := shw_ex hm (e := b) o.2.2.2
    have h1 := wgt_mono (Nat.le_max_left a.dep b.dep)
    have h2 := wgt_mono (Nat.le_max_right a.dep b.dep)
    refine (ShwAll.tup (.cons (.str (by decide) (by decide)) (.cons (.small (by have := o.1; omega)) (.cons (.small (by have := o.2.1; omega)) (.cons ha (.cons hb .nil (Nat.le_refl _) (Nat.zero_le _)) (Nat.le_max_left a.dep b.dep) (Nat.le_max_right a.dep b.dep)) (Nat.zero_le _) (Nat.le_refl _)) (Nat.zero_le _) (Nat.le_refl _)) (Nat.zero_le _) (Nat.le_refl _))).mono ?_ (Nat.le_refl _)
    show 10 + 1 + (15 + 1 + (15 + 1 + (wgt a.dep + 1 + (wgt b.dep + 1 + 0)))) ≤ 2 * wgt (max a.dep b.dep) + 60
    omega
/-- numbers of spans and worths stay below 2 ^ 600 -/
theorem spn_bnd : ∀ {many : Nat} {e : Ex}, ExOk many e → (spn e).1.natAbs ≤ 1000 * 2000 ^ e.dep ∧ (spn e).2.natAbs ≤ 1000 * 2000 ^ e.dep := by
  intro many e
  have up : ∀ {m n : Nat}, m ≤ n → 1000 * 2000 ^ m ≤ 1000 * 2000 ^ n := fun h => Nat.mul_le_mul_left _ (Nat.pow_le_pow_right (by decide) h)
  have nx : ∀ n : Nat, 1000 * 2000 ^ (n + 1) = 2000 * (1000 * 2000 ^ n) := fun n => by rw [Nat.pow_succ]; omega
  induction e with
  | fig c =>
    intro o
    have := o.1
    have := o.2
    show c.natAbs ≤ 1000 * 2000 ^ 1 ∧ c.natAbs ≤ 1000 * 2000 ^ 1
    omega
  | reg i =>
    intro o
    show (-1000 : Int).natAbs ≤ 1000 * 2000 ^ 1 ∧ (1000 : Int).natAbs ≤ 1000 * 2000 ^ 1
    decide
  | share j =>
    intro o
    show (0 : Int).natAbs ≤ 1000 * 2000 ^ 1 ∧ (1000 : Int).natAbs ≤ 1000 * 2000 ^ 1
    decide
  | two w a b iha ihb =>
    intro o
    have ha := iha o.1
    have hb := ihb o.2
    have h1 := up (Nat.le_max_left a.dep b.dep)
    have h2 := up (Nat.le_max_right a.dep b.dep)
    show (js w (spn a) (spn b)).1.natAbs ≤ 1000 * 2000 ^ (max a.dep b.dep + 1) ∧ (js w (spn a) (spn b)).2.natAbs ≤ 1000 * 2000 ^ (max a.dep b.dep + 1)
    rw [nx]
    cases w with
    | sum => simp only [js]; omega
    | less => simp only [js]; omega
    | least => simp only [js, mn]; split <;> split <;> omega
    | most => simp only [js, mx]; split <;> split <;> omega
  | times f a ih =>
    intro o
    have ha := ih o.2
    have hf : f.natAbs ≤ 9 := by have := o.1; omega
    have m1 : (f * (spn a).1).natAbs ≤ 9 * (1000 * 2000 ^ a.dep) := by rw [Int.natAbs_mul]; exact Nat.mul_le_mul hf ha.1
    have m2 : (f * (spn a).2).natAbs ≤ 9 * (1000 * 2000 ^ a.dep) := by rw [Int.natAbs_mul]; exact Nat.mul_le_mul hf ha.2
    show (mn _ _).natAbs ≤ 1000 * 2000 ^ (a.dep + 1) ∧ (mx _ _).natAbs ≤ 1000 * 2000 ^ (a.dep + 1)
    rw [nx]
    unfold mn mx
    split <;> split <;> omega
  | «by» i a ih =>
    intro o
    have ha := ih o.2
    have m1 : (mx (ab (spn a).1) (ab (spn a).2)).natAbs ≤ 1000 * 2000 ^ a.dep := by
      unfold mx ab
      repeat' split
      all_goals omega
    show (-1000 * mx _ _).natAbs ≤ 1000 * 2000 ^ (a.dep + 1) ∧ (1000 * mx _ _).natAbs ≤ 1000 * 2000 ^ (a.dep + 1)
    rw [nx]
    omega
  | when i c a b iha ihb =>
    intro o
    have ha := iha o.2.2.1
    have hb := ihb o.2.2.2
    have h1 := up (Nat.le_max_left a.dep b.dep)
    have h2 := up (Nat.le_max_right a.dep b.dep)
    show (mn _ _).natAbs ≤ 1000 * 2000 ^ (max a.dep b.dep + 1) ∧ (mx _ _).natAbs ≤ 1000 * 2000 ^ (max a.dep b.dep + 1)
    rw [nx]
    unfold mn mx
    split <;> split <;> omega
  | whr i c a b iha ihb =>
    intro o
    have ha := iha o.2.2.1
    have hb := ihb o.2.2.2
    have h1 := up (Nat.le_max_left a.dep b.dep)
    have h2 := up (Nat.le_max_right a.dep b.dep)
    show (mn _ _).natAbs ≤ 1000 * 2000 ^ (max a.dep b.dep + 1) ∧ (mx _ _).natAbs ≤ 1000 * 2000 ^ (max a.dep b.dep + 1)
    rw [nx]
    unfold mn mx
    split <;> split <;> omega
theorem bnd_600 {d : Nat} {x : Int} (hd : d ≤ 10) (h : x.natAbs ≤ 1000 * 2000 ^ d) : x.natAbs < 2 ^ 300 := by
  have h1 : 1000 * 2000 ^ d ≤ 1000 * 2000 ^ 10 := Nat.mul_le_mul_left _ (Nat.pow_le_pow_right (by decide) hd)
  have h2 : (1000 * 2000 ^ 10 : Nat) < 2 ^ 300 := by decide
  omega
end NG

namespace NG
open PySem PySem.Spec PyProof.Rows L2

/-! ### leaves and borders -/
def lvs : Ex → Int
  | .fig _ => 1
  | .reg _ => 1
  | .share _ => 1
  | .two .sum a b => lvs a * lvs b
  | .two .less a b => lvs a * lvs b
  | .two .least a b => lvs a + lvs b
  | .two .most a b => lvs a + lvs b
  | .times _ a => lvs a
  | .by _ a => lvs a
  | .when _ _ a b => mx (lvs a) (lvs b)
  | .whr _ _ a b => lvs a + lvs b
def bds : Ex → Int
  | .fig _ => 0
  | .reg _ => 0
  | .share _ => 0
  | .two .sum a b => bds a + bds b
  | .two .less a b => bds a + bds b
  | .two .least a b => bds a + bds b + lvs a * lvs b
  | .two .most a b => bds a + bds b + lvs a * lvs b
  | .times _ a => bds a
  | .by _ a => bds a
  | .when _ _ a b => mx (bds a) (bds b)
  | .whr _ _ a b => bds a + bds b + 1
def bnd : Nat → Nat
  | 0 => 1
  | n + 1 => bnd n * bnd n + 2 * bnd n
theorem bnd_pos : ∀ n, 1 ≤ bnd n
  | 0 => Nat.le_refl _
  | n + 1 => by
    have := bnd_pos n
    show 1 ≤ bnd n * bnd n + 2 * bnd n
    omega
theorem bnd_up : ∀ {m n : Nat}, m ≤ n → bnd m ≤ bnd n := by
  intro m n h
  induction h with
  | refl => exact Nat.le_refl _
  | step _ ih =>
    refine Nat.le_trans ih ?_
    show _ ≤ bnd _ * bnd _ + 2 * bnd _
    omega
theorem lb_bnd : ∀ e : Ex, (lvs e).natAbs ≤ bnd e.dep ∧ (bds e).natAbs ≤ bnd e.dep := by
  intro e
  have pm : ∀ {x y : Int} {B : Nat}, x.natAbs ≤ B → y.natAbs ≤ B → (x * y).natAbs ≤ B * B := fun hx hy => by rw [Int.natAbs_mul]; exact Nat.mul_le_mul hx hy
  induction e with
  | fig c => exact ⟨by show 1 ≤ bnd 1; exact bnd_pos 1, Nat.zero_le _⟩
  | reg c => exact ⟨by show 1 ≤ bnd 1; exact bnd_pos 1, Nat.zero_le _⟩
  | share c => exact ⟨by show 1 ≤ bnd 1; exact bnd_pos 1, Nat.zero_le _⟩
  | two w a b iha ihb =>
    have h1 := bnd_up (Nat.le_max_left a.dep b.dep)
    have h2 := bnd_up (Nat.le_max_right a.dep b.dep)
    have hm := pm (Nat.le_trans iha.1 h1) (Nat.le_trans ihb.1 h2)
    show (lvs (.two w a b)).natAbs ≤ bnd (max a.dep b.dep) * bnd (max a.dep b.dep) + 2 * bnd (max a.dep b.dep) ∧ (bds (.two w a b)).natAbs ≤ bnd (max a.dep b.dep) * bnd (max a.dep b.dep) + 2 * bnd (max a.dep b.dep)
    cases w <;> simp only [lvs, bds] <;> omega
  | times f a ih =>
    show (lvs a).natAbs ≤ bnd a.dep * bnd a.dep + 2 * bnd a.dep ∧ (bds a).natAbs ≤ bnd a.dep * bnd a.dep + 2 * bnd a.dep
    omega
  | «by» i a ih =>
    show (lvs a).natAbs ≤ bnd a.dep * bnd a.dep + 2 * bnd a.dep ∧ (bds a).natAbs ≤ bnd a.dep * bnd a.dep + 2 * bnd a.dep
    omega
  | when i c a b iha ihb =>
    have h1 := bnd_up (Nat.le_max_left a.dep b.dep)
    have h2 := bnd_up (Nat.le_max_right a.dep b.dep)
    show (mx (lvs a) (lvs b)).natAbs ≤ bnd (max a.dep b.dep) * bnd (max a.dep b.dep) + 2 * bnd (max a.dep b.dep) ∧ (mx (bds a) (bds b)).natAbs ≤ bnd (max a.dep b.dep) * bnd (max a.dep b.dep) + 2 * bnd (max a.dep b.dep)
    unfold mx
    split <;> split <;> omega
  | whr i c a b iha ihb =>
    have h1 := bnd_up (Nat.le_max_left a.dep b.dep)
    have h2 := bnd_up (Nat.le_max_right a.dep b.dep)
    have h3 := bnd_pos (max a.dep b.dep)
    have h4 : bnd (max a.dep b.dep) ≤ bnd (max a.dep b.dep) * bnd (max a.dep b.dep) := Nat.le_mul_of_pos_left _ h3
    show (lvs a + lvs b).natAbs ≤ bnd (max a.dep b.dep) * bnd (max a.dep b.dep) + 2 * bnd (max a.dep b.dep) ∧ (bds a + bds b + 1).natAbs ≤ bnd (max a.dep b.dep) * bnd (max a.dep b.dep) + 2 * bnd (max a.dep b.dep)
    omega
theorem lvs_mul {e : Ex} {y : Int} (h : e.dep ≤ 5) : CMul (lvs e) y := by
  have h1 := (lb_bnd e).1
  have h2 := bnd_up h
  have h3 : bnd 5 < 2 ^ 64 := by decide
  exact .inl ⟨by omega, by omega⟩
theorem lb_600 {e : Ex} (h : e.dep ≤ 6) : (lvs e).natAbs < 2 ^ 600 ∧ (bds e).natAbs < 2 ^ 600 := by
  have h1 := lb_bnd e
  have h2 := bnd_up h
  have h3 : bnd 6 < 2 ^ 600 := by decide
  omega
def spCnt (K : PySem.W.Frag) (f : Ex → Int) (n : Nat) : Sp := fun vs H Q _ => ∃ (v : V) (e : Ex) (many : Nat), vs = [v] ∧ ExAt K H e v ∧ ExOk many e ∧ e.dep ≤ n ∧ e.dep ≤ 6 ∧ ∀ H', Same H H' → Q (.int (f e)) H'
def spLB (K : PySem.W.Frag) (n : Nat) : Sp := fun vs H Q _ => ∃ (v : V) (e : Ex) (many : Nat), vs = [v] ∧ ExAt K H e v ∧ ExOk many e ∧ e.dep ≤ n ∧ e.dep ≤ 6 ∧ ∀ H' u, Same H H' → SpAt K H' (lvs e, bds e) u → Q u H'

/-! ### the law's own reading -/
def Ex.rest : Ex → List Itm
  | .fig c => [.i c]
  | .reg i => [.i (i : Int)]
  | .share j => [.i (j : Int)]
  | .two _ a b => [.k a, .k b]
  | .times f a => [.i f, .k a]
  | .by i a => [.i (i : Int), .k a]
  | .when i c a b => [.i (i : Int), .i c, .k a, .k b]
  | .whr j c a b => [.i (j : Int), .i c, .k a, .k b]
theorem kidsI_rest (e : Ex) : kidsI e.rest = e.kids := by cases e <;> rfl
theorem rest_len (e : Ex) : e.rest.length ≤ 4 := by cases e <;> simp [Ex.rest]
theorem ItsAt.imp {K : PySem.W.Frag} {H H' : Hp} (sm : Same H H') : ∀ {vs : List V} {ts : List Itm}, ItsAt K H vs ts → ItsAt K H' vs ts
  | [], [], _ => trivial
  | _ :: _, .s _ :: _, ⟨x, r⟩ => ⟨x, r.imp sm⟩
  | _ :: _, .i _ :: _, ⟨x, r⟩ => ⟨x, r.imp sm⟩
  | _ :: _, .k e :: _, ⟨x, r⟩ => ⟨ExAt.same (e := e) x sm, r.imp sm⟩
theorem ExAt.rst {K : PySem.W.Frag} {H : Hp} : ∀ {e : Ex} {v : V}, ExAt K H e v → ∃ p xs, v = .ref p ∧ SqT K H p (.str (wordOf e) :: xs) ∧ 0 < xs.length ∧ ItsAt K H xs e.rest
  | .fig _, _, ⟨p, e, q⟩ => ⟨p, _, e, q, by simp, rfl, trivial⟩
  | .reg _, _, ⟨p, e, q⟩ => ⟨p, _, e, q, by simp, rfl, trivial⟩
  | .share _, _, ⟨p, e, q⟩ => ⟨p, _, e, q, by simp, rfl, trivial⟩
  | .two _ _ _, _, ⟨p, x, y, e, q, a, b⟩ => ⟨p, _, e, q, by simp, a, b, trivial⟩
  | .times _ _, _, ⟨p, x, e, q, a⟩ => ⟨p, _, e, q, by simp, rfl, a, trivial⟩
  | .by _ _, _, ⟨p, x, e, q, a⟩ => ⟨p, _, e, q, by simp, rfl, a, trivial⟩
  | .when _ _ _ _, _, ⟨p, x, y, e, q, a, b⟩ => ⟨p, _, e, q, by simp, rfl, rfl, a, b, trivial⟩
  | .whr _ _ _ _, _, ⟨p, x, y, e, q, a, b⟩ => ⟨p, _, e, q, by simp, rfl, rfl, a, b, trivial⟩
theorem cut1 {x : V} {xs : List V} : cutV (x :: xs) (some 1) none = xs := by
  unfold cutV
  rw [show HT.sIx (x :: xs).length 0 (some 1) = min 1 (x :: xs).length from HT.sIx_nat _ 0 1, HT.sIx_none, List.length_cons, show min 1 (xs.length + 1) = 1 by omega]
  show List.take (xs.length + 1 - 1) xs = xs
  rw [Nat.add_sub_cancel, List.take_length]
theorem cut1w {x : V} {xs : List V} (h : 0 < xs.length) : ¬ (HT.sIx (x :: xs).length 0 (some 1) = 0 ∧ HT.sIx (x :: xs).length (x :: xs).length none = (x :: xs).length) := by
  rw [show HT.sIx (x :: xs).length 0 (some 1) = min 1 (x :: xs).length from HT.sIx_nat _ 0 1, List.length_cons]
  omega
theorem kidsI_snoc {ts : List Itm} {i : Nat} {t : Itm} (h : ts[i]? = some t) : kidsI (ts.take (i + 1)) = kidsI (ts.take i) ++ kidsI [t] := by
  rw [List.take_add_one, h, kidsI_append]
  rfl
theorem mem_kidsI {e : Ex} : ∀ {ts : List Itm}, Itm.k e ∈ ts → e ∈ kidsI ts
  | .k e' :: r, h => by
    rcases List.mem_cons.mp h with h | h
    · cases h
      exact List.mem_cons_self
    · exact List.mem_cons_of_mem _ (mem_kidsI h)
  | .s _ :: r, h => by
    rcases List.mem_cons.mp h with h | h
    · cases h
    · exact mem_kidsI (ts := r) h
  | .i _ :: r, h => by
    rcases List.mem_cons.mp h with h | h
    · cases h
    · exact mem_kidsI (ts := r) h
theorem sort2 {ns : List Int} {a b : Int} (hp : ns.Perm [a, b]) (hs : ns.Pairwise (· ≤ ·)) : ns = [mn a b, mx a b] := by
  have hl := hp.length_eq
  match ns, hl with
  | [x, y], _ =>
    have hxy : x ≤ y := by simpa using hs
    have h1 : x = a ∨ x = b := by simpa using hp.mem_iff (a := x)
    have h2 : y = a ∨ y = b := by simpa using hp.mem_iff (a := y)
    have h3 : a = x ∨ a = y := by simpa using (hp.mem_iff (a := a)).mpr (by simp)
    have h4 : b = x ∨ b = y := by simpa using (hp.mem_iff (a := b)).mpr (by simp)
    have e1 : x = mn a b := by unfold mn; split <;> omega
    have e2 : y = mx a b := by unfold mx; split <;> omega
    rw [e1, e2]
theorem far_eq {lo hi : Int} (h : lo ≤ hi) : (if (0 - lo) > hi then (0 - lo) else hi) = mx (ab lo) (ab hi) := by
  unfold mx ab
  repeat' split
  all_goals omega
end NG

namespace NG
open PySem PySem.Spec PyProof.Rows L2
/-! ### rows of expressions as data -/
theorem lay_ex : ∀ e : Ex, (toD e).canLay0 = true
  | .fig _ => by
    show (PyData.canLay0 (.str "fig") && (true && true)) = true
    decide +kernel
  | .reg _ => by
    show (PyData.canLay0 (.str "reg") && (true && true)) = true
    decide +kernel
  | .share _ => by
    show (PyData.canLay0 (.str "share") && (true && true)) = true
    decide +kernel
  | .two w a b => by
    have ha := lay_ex a
    have hb := lay_ex b
    show (PyData.canLay0 (.str (wn w)) && (PyData.canLay0 (toD a) && (PyData.canLay0 (toD b) && true))) = true
    rw [ha, hb]
    cases w <;> decide +kernel
  | .times _ a => by
    have ha := lay_ex a
    show (PyData.canLay0 (.str "times") && (true && (PyData.canLay0 (toD a) && true))) = true
    rw [ha]
    decide +kernel
  | .by _ a => by
    have ha := lay_ex a
    show (PyData.canLay0 (.str "by") && (true && (PyData.canLay0 (toD a) && true))) = true
    rw [ha]
    decide +kernel
  | .when _ _ a b => by
    have ha := lay_ex a
    have hb := lay_ex b
    show (PyData.canLay0 (.str "when") && (true && (true && (PyData.canLay0 (toD a) && (PyData.canLay0 (toD b) && true))))) = true
    rw [ha, hb]
    decide +kernel
  | .whr _ _ a b => by
    have ha := lay_ex a
    have hb := lay_ex b
    show (PyData.canLay0 (.str "where") && (true && (true && (PyData.canLay0 (toD a) && (PyData.canLay0 (toD b) && true))))) = true
    rw [ha, hb]
    decide +kernel
theorem depth_ex : ∀ e : Ex, (toD e).depth ≤ e.dep
  | .fig _ => Nat.le_refl _
  | .reg _ => Nat.le_refl _
  | .share _ => Nat.le_refl _
  | .two w a b => by
    have ha := depth_ex a
    have hb := depth_ex b
    show max 0 (max (toD a).depth (max (toD b).depth 0)) + 1 ≤ max a.dep b.dep + 1
    omega
  | .times _ a => by
    have ha := depth_ex a
    show max 0 (max 0 (max (toD a).depth 0)) + 1 ≤ a.dep + 1
    omega
  | .by _ a => by
    have ha := depth_ex a
    show max 0 (max 0 (max (toD a).depth 0)) + 1 ≤ a.dep + 1
    omega
  | .when _ _ a b => by
    have ha := depth_ex a
    have hb := depth_ex b
    show max 0 (max 0 (max 0 (max (toD a).depth (max (toD b).depth 0)))) + 1 ≤ max a.dep b.dep + 1
    omega
  | .whr _ _ a b => by
    have ha := depth_ex a
    have hb := depth_ex b
    show max 0 (max 0 (max 0 (max (toD a).depth (max (toD b).depth 0)))) + 1 ≤ max a.dep b.dep + 1
    omega
theorem shaped_rows {es : List Ex} (h : ∀ e ∈ es, e.dep ≤ 40) : SeqAt.shaped (.list (es.map toD)) = true := by
  have h1 : PyData.canLayAll0 (es.map toD) = true := by
    clear h
    induction es with
    | nil => rfl
    | cons e r ih =>
      show ((toD e).canLay0 && PyData.canLayAll0 (r.map toD)) = true
      rw [lay_ex e, ih]
      rfl
  have h2 : PyData.depthAll (es.map toD) ≤ 40 := by
    clear h1
    induction es with
    | nil => exact Nat.zero_le _
    | cons e r ih =>
      have a := depth_ex e
      have b := h e (by simp)
      have c := ih fun x hx => h x (List.mem_cons_of_mem _ hx)
      show max (toD e).depth (PyData.depthAll (r.map toD)) ≤ 40
      omega
  show (PyData.canLayAll0 (es.map toD) && decide (PyData.depthAll (es.map toD) + 1 ≤ 64)) = true
  rw [h1, decide_eq_true (by omega)]
  rfl
theorem RowsAt.dps {K : PySem.W.Frag} {H : Hp} : ∀ {vs : List V} {es : List Ex}, RowsAt K H vs es → DpAll K H vs (es.map toD)
  | [], [], _ => .nil
  | _ :: _, _ :: _, ⟨x, r⟩ => .cons x.dp r.dps
theorem RowsAt.append {K : PySem.W.Frag} {H : Hp} : ∀ {vs ws : List V} {es fs : List Ex}, RowsAt K H vs es → RowsAt K H ws fs → RowsAt K H (vs ++ ws) (es ++ fs)
  | [], _, [], _, _, r => r
  | _ :: _, _, _ :: _, _, ⟨x, q⟩, r => ⟨x, q.append r⟩
theorem RowsAt.mem {K : PySem.W.Frag} {H : Hp} : ∀ {vs : List V} {es : List Ex} {v : V}, RowsAt K H vs es → v ∈ vs → ∃ e ∈ es, ExAt K H e v
  | v' :: vs, e :: es, v, ⟨x, r⟩, h => by
    rcases List.mem_cons.mp h with h | h
    · subst h
      exact ⟨e, by simp, x⟩
    · obtain ⟨e', h1, h2⟩ := r.mem h
      exact ⟨e', List.mem_cons_of_mem _ h1, h2⟩
/-! ### slices of lists -/
theorem cut_take {xs : List V} {j : Nat} : cutV xs none (some (j : Int)) = xs.take j := by
  unfold cutV
  rw [HT.sIx_none, HT.sIx_nat, List.drop_zero, Nat.sub_zero]
  by_cases h : j ≤ xs.length
  · rw [Nat.min_eq_left h]
  · rw [Nat.min_eq_right (by omega), List.take_length, List.take_of_length_le (by omega)]
theorem cut_drop {xs : List V} {j : Nat} : cutV xs (some (j : Int)) none = xs.drop j := by
  unfold cutV
  rw [HT.sIx_none, HT.sIx_nat]
  by_cases h : j ≤ xs.length
  · rw [Nat.min_eq_left h, List.take_of_length_le (by rw [List.length_drop]; exact Nat.le_refl _)]
  · rw [Nat.min_eq_right (by omega), Nat.sub_self, List.take_zero, List.drop_of_length_le (by omega)]
/-! ### words within -/
def spWords (K : PySem.W.Frag) (n : Nat) : Sp := fun vs H Q _ => ∃ (v : V) (x : Str) (e : Ex) (many : Nat), vs = [v, .str x] ∧ ExAt K H e v ∧ ExOk many e ∧ e.dep ≤ n ∧ e.dep ≤ 6 ∧
  ∀ H' l us es, Same H H' → H l = none → H' l = some (.lst us) → RowsAt K H' us es → es.length ≤ 3 ^ n → (∀ e' ∈ es, ExOk many e' ∧ wordOf e' = x ∧ e'.dep ≤ e.dep) → Q (.ref l) H'
def spBorder (K : PySem.W.Frag) : Sp := fun vs H Q _ => ∃ (a : Addr) (v : V) (e : Ex) (many n : Nat), vs = [.ref a, v, .int (many : Int)] ∧ ExAt K H e v ∧ ExOk many e ∧ e.dep ≤ 5 ∧ 2 ≤ many ∧ many ≤ 3 ∧ HandAt H a n ∧ n ≤ 999997000 ∧
  ∀ H' u ms, But a H H' → HandAt H' a (n + 20) → ShAt K H' many ms u → Q u H'
def spNear (K : PySem.W.Frag) : Sp := fun vs H Q _ => ∃ (a : Addr) (v : V) (e : Ex) (many n : Nat), vs = [.ref a, v] ∧ ExAt K H e v ∧ ExOk many e ∧ e.dep ≤ 5 ∧ HandAt H a n ∧ n ≤ 999997000 ∧
  ∀ H' u rs, But a H H' → HandAt H' a (n + 15) → RegsAt K H' rs u → Q u H'
theorem is_whr {e : Ex} (h : wordOf e = "where") : ∃ j c a b, e = .whr j c a b := by
  cases e with
  | whr j c a b => exact ⟨j, c, a, b, rfl⟩
  | two w a b => cases w <;> exact absurd h (of_decide_eq_false rfl)
  | fig _ => exact absurd h (of_decide_eq_false rfl)
  | reg _ => exact absurd h (of_decide_eq_false rfl)
  | share _ => exact absurd h (of_decide_eq_false rfl)
  | times _ _ => exact absurd h (of_decide_eq_false rfl)
  | «by» _ _ => exact absurd h (of_decide_eq_false rfl)
  | when _ _ _ _ => exact absurd h (of_decide_eq_false rfl)
theorem is_when {e : Ex} (h : wordOf e = "when") : ∃ j c a b, e = .when j c a b := by
  cases e with
  | when j c a b => exact ⟨j, c, a, b, rfl⟩
  | two w a b => cases w <;> exact absurd h (of_decide_eq_false rfl)
  | fig _ => exact absurd h (of_decide_eq_false rfl)
  | reg _ => exact absurd h (of_decide_eq_false rfl)
  | share _ => exact absurd h (of_decide_eq_false rfl)
  | times _ _ => exact absurd h (of_decide_eq_false rfl)
  | «by» _ _ => exact absurd h (of_decide_eq_false rfl)
  | whr _ _ _ _ => exact absurd h (of_decide_eq_false rfl)
end NG

namespace NG
open PySem PySem.Spec PyProof.Rows L2
/-! ### tuples put together and cut, whatever they hold -/
theorem catA {K : PySem.W.Frag} {H : Hp} {a b : Addr} {xs ys : List V} {Q : VK} (ha : SqT K H a xs) (hb : SqT K H b ys) (hl : xs.length + ys.length ≤ sizeLine) (q : ∀ H' p, Same H H' → SqT K H' p (xs ++ ys) → Q (.ref p) H') : rCatA K (.ref a) (.ref b) H Q := by
  refine ⟨a, b, xs, ys, rfl, rfl, ha, hb, hl, fun h => ?_, fun _ h => ?_, fun _ _ p np => ?_⟩
  · subst h
    exact q H b (Same.refl _) hb
  · subst h
    exact q H a (Same.refl _) (by rw [List.append_nil]; exact ha)
  · exact q _ p (same_new np) (SqT.of upd_same)
theorem cutV_whole {xs : List V} {lo hi : Option Int} (h : HT.sIx xs.length 0 lo = 0 ∧ HT.sIx xs.length xs.length hi = xs.length) : cutV xs lo hi = xs := by
  unfold cutV
  rw [h.1, h.2, List.drop_zero, Nat.sub_zero, List.take_length]
theorem slA {K : PySem.W.Frag} {H : Hp} {a : Addr} {xs : List V} {lo hi : Option Int} {Q : VK} (ha : SqT K H a xs) (q : ∀ H' p, Same H H' → SqT K H' p (cutV xs lo hi) → Q (.ref p) H') : rSlA K (.ref a) lo hi H Q := by
  refine ⟨a, xs, rfl, ha, fun h => ?_, fun _ p np => ?_⟩
  · exact q H a (Same.refl _) (by rw [cutV_whole h]; exact ha)
  · exact q _ p (same_new np) (SqT.of upd_same)
theorem HandAt.same {H H' : Hp} {a : Addr} {n : Nat} (h : HandAt H a n) (s : Same H H') : HandAt H' a n := by
  obtain ⟨g, sd, m, e, z⟩ := h
  exact ⟨g, sd, m, s _ _ e, z⟩

/-! ### deeds -/
inductive D5 where
  | put | add | copy | plus | told
  deriving DecidableEq
def dn : D5 → Str
  | .put => "put"
  | .add => "add"
  | .copy => "copy"
  | .plus => "plus"
  | .told => "told"
inductive Ds where
  | nil
  | op (w : D5) (i : Nat) (x : Int) (r : Ds)
  | when (i : Nat) (c : Int) (a b r : Ds)
def DsAt (K : PySem.W.Frag) (H : Hp) : Ds → List V → Prop
  | .nil, vs => vs = []
  | .op w i x r, vs => ∃ p us, vs = .ref p :: us ∧ SqT K H p [.str (dn w), .int (i : Int), .int x] ∧ DsAt K H r us
  | .when i c a b r, vs => ∃ p pa pb xa xb us, vs = .ref p :: us ∧ SqT K H p [.str "when", .int (i : Int), .int c, .ref pa, .ref pb] ∧ SqT K H pa xa ∧ DsAt K H a xa ∧ SqT K H pb xb ∧ DsAt K H b xb ∧ DsAt K H r us
theorem DsAt.imp {K : PySem.W.Frag} {H H' : Hp} (h : ∀ p xs, SqT K H p xs → SqT K H' p xs) : ∀ {d : Ds} {vs : List V}, DsAt K H d vs → DsAt K H' d vs
  | .nil, _, e => e
  | .op _ _ _ _, _, ⟨p, us, e, q, r⟩ => ⟨p, us, e, h _ _ q, DsAt.imp h r⟩
  | .when _ _ _ _ _, _, ⟨p, pa, pb, xa, xb, us, e, q, qa, a, qb, b, r⟩ => ⟨p, pa, pb, xa, xb, us, e, h _ _ q, h _ _ qa, DsAt.imp h a, h _ _ qb, DsAt.imp h b, DsAt.imp h r⟩
theorem DsAt.same {K : PySem.W.Frag} {H H' : Hp} {d : Ds} {vs : List V} (x : DsAt K H d vs) (s : Same H H') : DsAt K H' d vs := x.imp fun _ _ q => same_sqt s q
def Ds.app : Ds → Ds → Ds
  | .nil, e => e
  | .op w i x r, e => .op w i x (r.app e)
  | .when i c a b r, e => .when i c a b (r.app e)
theorem DsAt.app {K : PySem.W.Frag} {H : Hp} : ∀ {d e : Ds} {vs ws : List V}, DsAt K H d vs → DsAt K H e ws → DsAt K H (d.app e) (vs ++ ws)
  | .nil, _, _, _, e, y => by
    subst e
    exact y
  | .op _ _ _ _, _, _, _, ⟨p, us, e, q, r⟩, y => by
    subst e
    exact ⟨p, _, rfl, q, DsAt.app r y⟩
  | .when _ _ _ _ _, _, _, _, ⟨p, pa, pb, xa, xb, us, e, q, qa, a, qb, b, r⟩, y => by
    subst e
    exact ⟨p, pa, pb, xa, xb, _, rfl, q, qa, a, qb, b, DsAt.app r y⟩
def Ds.cnt : Ds → Nat
  | .nil => 0
  | .op _ _ _ r => 1 + r.cnt
  | .when _ _ a b r => 1 + (a.cnt + b.cnt) + r.cnt
def Ds.len : Ds → Nat
  | .nil => 0
  | .op _ _ _ r => r.len + 1
  | .when _ _ _ _ r => r.len + 1
def Ds.dep : Ds → Nat
  | .nil => 0
  | .op _ _ _ r => max 1 r.dep
  | .when _ _ a b r => max (max a.dep b.dep + 1) r.dep
theorem Ds.len_le : ∀ d : Ds, d.len ≤ d.cnt
  | .nil => Nat.le_refl _
  | .op _ _ _ r => by have := r.len_le; show r.len + 1 ≤ 1 + r.cnt; omega
  | .when _ _ a b r => by have := r.len_le; show r.len + 1 ≤ 1 + (a.cnt + b.cnt) + r.cnt; omega
theorem DsAt.len {K : PySem.W.Frag} {H : Hp} : ∀ {d : Ds} {vs : List V}, DsAt K H d vs → vs.length = d.len
  | .nil, _, e => by subst e; rfl
  | .op _ _ _ _, _, ⟨p, us, e, q, r⟩ => by subst e; rw [List.length_cons, r.len]; rfl
  | .when _ _ _ _ _, _, ⟨p, pa, pb, xa, xb, us, e, q, qa, a, qb, b, r⟩ => by subst e; rw [List.length_cons, r.len]; rfl
theorem Ds.cnt_app : ∀ d e : Ds, (d.app e).cnt = d.cnt + e.cnt
  | .nil, e => by show e.cnt = 0 + e.cnt; omega
  | .op _ _ _ r, e => by show 1 + (r.app e).cnt = 1 + r.cnt + e.cnt; rw [Ds.cnt_app r e]; omega
  | .when _ _ a b r, e => by show 1 + (a.cnt + b.cnt) + (r.app e).cnt = 1 + (a.cnt + b.cnt) + r.cnt + e.cnt; rw [Ds.cnt_app r e]; omega
theorem Ds.dep_app : ∀ d e : Ds, (d.app e).dep = max d.dep e.dep
  | .nil, e => by show e.dep = max 0 e.dep; omega
  | .op _ _ _ r, e => by show max 1 (r.app e).dep = max (max 1 r.dep) e.dep; rw [Ds.dep_app r e]; omega
  | .when _ _ a b r, e => by show max (max a.dep b.dep + 1) (r.app e).dep = max (max (max a.dep b.dep + 1) r.dep) e.dep; rw [Ds.dep_app r e]; omega
def xok (many : Nat) : D5 → Int → Prop
  | .put, x => -1000 ≤ x ∧ x ≤ 1000
  | .add, x => -1000 ≤ x ∧ x ≤ 1000
  | .copy, x => 0 ≤ x ∧ x < 4
  | .plus, x => 0 ≤ x ∧ x < 4
  | .told, x => 0 ≤ x ∧ x < many
theorem xok_small {many : Nat} (hm : many ≤ 1000) : ∀ {w : D5} {x : Int}, xok many w x → -1000 ≤ x ∧ x ≤ 1000
  | .put, _, h => h
  | .add, _, h => h
  | .copy, _, h => by have := h.1; have := h.2; constructor <;> omega
  | .plus, _, h => by have := h.1; have := h.2; constructor <;> omega
  | .told, _, h => by have := h.1; have := h.2; constructor <;> omega
def DsOk (many : Nat) : Ds → Prop
  | .nil => True
  | .op w i x r => i < 4 ∧ xok many w x ∧ DsOk many r
  | .when i c a b r => i < 4 ∧ (-1000 ≤ c ∧ c ≤ 1000) ∧ DsOk many a ∧ DsOk many b ∧ DsOk many r
theorem DsOk.app {many : Nat} : ∀ {d e : Ds}, DsOk many d → DsOk many e → DsOk many (d.app e)
  | .nil, _, _, y => y
  | .op _ _ _ _, _, ⟨h1, h2, h3⟩, y => ⟨h1, h2, DsOk.app h3 y⟩
  | .when _ _ _ _ _, _, ⟨h1, h2, h3, h4, h5⟩, y => ⟨h1, h2, h3, h4, DsOk.app h5 y⟩
def cl (n : Int) : Int := mx (-1000) (mn 1000 n)
theorem cl_in (n : Int) : -1000 ≤ cl n ∧ cl n ≤ 1000 := by
  unfold cl mx mn
  repeat' split
  all_goals omega
def hb (ss : List Int) : D5 → Nat → Int → List Int → Int
  | .put, _, x, _ => x
  | .add, i, x, rs => rs.getD i 0 + x
  | .copy, _, x, rs => rs.getD x.toNat 0
  | .plus, i, x, rs => rs.getD i 0 + rs.getD x.toNat 0
  | .told, _, x, _ => 1000 * ss.getD x.toNat 0 / ss.sum
def ap (ss : List Int) : Ds → List Int → List Int
  | .nil, rs => rs
  | .op w i x r, rs => ap ss r (rs.set i (cl (hb ss w i x rs)))
  | .when i c a b r, rs => ap ss r (if rs.getD i 0 < c then ap ss a rs else ap ss b rs)
def RegOk (rs : List Int) : Prop := rs.length = 4 ∧ ∀ x ∈ rs, -1000 ≤ x ∧ x ≤ 1000
theorem RegOk.set {rs : List Int} (h : RegOk rs) (i : Nat) (n : Int) : RegOk (rs.set i (cl n)) := by
  refine ⟨by rw [List.length_set]; exact h.1, fun x hx => ?_⟩
  rcases List.mem_or_eq_of_mem_set hx with hx | rfl
  · exact h.2 x hx
  · exact cl_in n
theorem RegOk.ap {ss : List Int} : ∀ {d : Ds} {rs : List Int}, RegOk rs → RegOk (ap ss d rs)
  | .nil, _, h => h
  | .op w i x r, rs, h => RegOk.ap (d := r) (h.set i _)
  | .when i c a b r, rs, h => by
    show RegOk (NG.ap ss r (if rs.getD i 0 < c then NG.ap ss a rs else NG.ap ss b rs))
    refine RegOk.ap (d := r) ?_
    split
    · exact RegOk.ap (d := a) h
    · exact RegOk.ap (d := b) h
theorem RegsAt.ok {K : PySem.W.Frag} {H : Hp} {rs : List Int} {v : V} (h : RegsAt K H rs v) : RegOk rs := by
  obtain ⟨p, _, _, l, b⟩ := h
  exact ⟨l, b⟩
theorem RegsAt.same {K : PySem.W.Frag} {H H' : Hp} {rs : List Int} {v : V} (h : RegsAt K H rs v) (s : Same H H') : RegsAt K H' rs v := h.imp fun _ _ q => same_sqt s q
theorem ShAt.same {K : PySem.W.Frag} {H H' : Hp} {many : Nat} {rs : List Int} {v : V} (h : ShAt K H many rs v) (s : Same H H') : ShAt K H' many rs v := h.imp fun _ _ q => same_sqt s q
/-! ### rows of deeds, doubters -/
def BhAt (K : PySem.W.Frag) (H : Hp) : List V → List Ds → Prop
  | [], [] => True
  | v :: vs, d :: ds => (∃ p xs, v = .ref p ∧ SqT K H p xs ∧ DsAt K H d xs) ∧ BhAt K H vs ds
  | _, _ => False
theorem BhAt.imp {K : PySem.W.Frag} {H H' : Hp} (h : ∀ p xs, SqT K H p xs → SqT K H' p xs) : ∀ {vs : List V} {es : List Ds}, BhAt K H vs es → BhAt K H' vs es
  | [], [], _ => trivial
  | _ :: _, _ :: _, ⟨⟨p, xs, e, q, x⟩, r⟩ => ⟨⟨p, xs, e, h _ _ q, x.imp h⟩, BhAt.imp h r⟩
theorem BhAt.same {K : PySem.W.Frag} {H H' : Hp} {vs : List V} {es : List Ds} (r : BhAt K H vs es) (s : Same H H') : BhAt K H' vs es := r.imp fun _ _ q => same_sqt s q
theorem BhAt.len {K : PySem.W.Frag} {H : Hp} : ∀ {vs : List V} {es : List Ds}, BhAt K H vs es → vs.length = es.length
  | [], [], _ => rfl
  | _ :: _, _ :: _, ⟨_, r⟩ => by rw [List.length_cons, List.length_cons, r.len]
theorem BhAt.snoc {K : PySem.W.Frag} {H : Hp} {p : Addr} {xs : List V} {d : Ds} (q : SqT K H p xs) (x : DsAt K H d xs) : ∀ {vs : List V} {es : List Ds}, BhAt K H vs es → BhAt K H (vs ++ [.ref p]) (es ++ [d])
  | [], [], _ => ⟨⟨p, xs, rfl, q, x⟩, trivial⟩
  | _ :: _, _ :: _, ⟨y, r⟩ => ⟨y, BhAt.snoc q x r⟩
theorem BhAt.get {K : PySem.W.Frag} {H : Hp} : ∀ {vs : List V} {es : List Ds} {k : Nat} {d : Ds}, BhAt K H vs es → es[k]? = some d → ∃ p xs, vs[k]? = some (.ref p) ∧ SqT K H p xs ∧ DsAt K H d xs
  | [], [], _, _, _, h => by simp at h
  | v :: vs, e' :: es, 0, e, ⟨⟨p, xs, e1, q, x⟩, r⟩, h => by
    have : e' = e := Option.some.inj h
    subst this
    exact ⟨p, xs, by rw [e1]; rfl, q, x⟩
  | v :: vs, e' :: es, k + 1, e, ⟨x, r⟩, h => BhAt.get (k := k) r h
structure Dbt where
  name : Str
  scale : Nat
  begins : List Int
  stakes : List Ex
  behinds : List Ds
def DbAt (K : PySem.W.Frag) (H : Hp) (D : Dbt) (v : V) : Prop := ∃ (p : Addr) (vb : V) (ps pb : Addr) (us ws : List V), v = .ref p ∧ SqT K H p [.str D.name, .int (D.scale : Int), vb, .ref ps, .ref pb] ∧ RegsAt K H D.begins vb ∧ SqT K H ps us ∧ RowsAt K H us D.stakes ∧ SqT K H pb ws ∧ BhAt K H ws D.behinds
theorem DbAt.imp {K : PySem.W.Frag} {H H' : Hp} {D : Dbt} {v : V} (x : DbAt K H D v) (h : ∀ p xs, SqT K H p xs → SqT K H' p xs) : DbAt K H' D v := by
  obtain ⟨p, vb, ps, pb, us, ws, e, q, r, q1, r1, q2, r2⟩ := x
  exact ⟨p, vb, ps, pb, us, ws, e, h _ _ q, r.imp h, h _ _ q1, r1.imp h, h _ _ q2, r2.imp h⟩
theorem DbAt.same {K : PySem.W.Frag} {H H' : Hp} {D : Dbt} {v : V} (x : DbAt K H D v) (s : Same H H') : DbAt K H' D v := x.imp fun _ _ q => same_sqt s q
/-- names, scale, registers, stakes of a depth, deeds of a depth and a number -/
structure DbOk (many dE dD cD : Nat) (D : Dbt) : Prop where
  nm : D.name = "a" ∨ D.name = "doubter" ∨ D.name = "sceptics" ∨ D.name = "zz"
  sc : D.scale < 5
  rg : RegOk D.begins
  sl : D.stakes.length = many
  st : ∀ e ∈ D.stakes, ExOk many e ∧ e.dep ≤ dE
  bl : D.behinds.length = many
  bh : ∀ d ∈ D.behinds, DsOk many d ∧ d.dep ≤ dD ∧ d.cnt ≤ cD
/-! ### as data -/
def dsD : Ds → List PyData
  | .nil => []
  | .op w i x r => .tuple [.str (dn w), .int (i : Int), .int x] :: dsD r
  | .when i c a b r => .tuple [.str "when", .int (i : Int), .int c, .tuple (dsD a), .tuple (dsD b)] :: dsD r
theorem DsAt.dps {K : PySem.W.Frag} {H : Hp} : ∀ {d : Ds} {vs : List V}, DsAt K H d vs → DpAll K H vs (dsD d)
  | .nil, _, e => by subst e; exact .nil
  | .op _ _ _ _, _, ⟨p, us, e, q, r⟩ => by subst e; exact .cons (.tup q (.cons (.str _) (.cons (.int _) (.cons (.int _) .nil)))) r.dps
  | .when _ _ _ _ _, _, ⟨p, pa, pb, xa, xb, us, e, q, qa, a, qb, b, r⟩ => by subst e; exact .cons (.tup q (.cons (.str _) (.cons (.int _) (.cons (.int _) (.cons (.tup qa a.dps) (.cons (.tup qb b.dps) .nil)))))) r.dps
theorem BhAt.dps {K : PySem.W.Frag} {H : Hp} : ∀ {vs : List V} {es : List Ds}, BhAt K H vs es → DpAll K H vs (es.map fun d => .tuple (dsD d))
  | [], [], _ => .nil
  | _ :: _, _ :: _, ⟨⟨p, xs, e, q, x⟩, r⟩ => by subst e; exact .cons (.tup q x.dps) r.dps
def dbD (D : Dbt) : PyData := .tuple [.str D.name, .int (D.scale : Int), .tuple (D.begins.map PyData.int), .tuple (D.stakes.map toD), .tuple (D.behinds.map fun d => .tuple (dsD d))]
theorem dp_ints {K : PySem.W.Frag} {H : Hp} : ∀ ns : List Int, DpAll K H (ns.map V.int) (ns.map PyData.int)
  | [] => .nil
  | n :: r => .cons (.int n) (dp_ints r)
theorem DbAt.dp {K : PySem.W.Frag} {H : Hp} {D : Dbt} {v : V} (x : DbAt K H D v) : Dp K H v (dbD D) := by
  obtain ⟨p, vb, ps, pb, us, ws, e, q, ⟨pr, e2, r, _⟩, q1, r1, q2, r2⟩ := x
  subst e e2
  exact .tup q (.cons (.str _) (.cons (.int _) (.cons (.tup r (dp_ints _)) (.cons (.tup q1 r1.dps) (.cons (.tup q2 r2.dps) .nil)))))
theorem shw_smalls : ∀ {ns : List Int}, (∀ x ∈ ns, -1000 ≤ x ∧ x ≤ 1000) → ShwAll (ns.map PyData.int) (16 * ns.length) 0
  | [], _ => ShwAll.nil
  | n :: r, h => by
    have h0 := h n (by simp)
    have h1 := Shw.small (i := n) (by omega)
    have h2 := shw_smalls (ns := r) fun x hx => h x (List.mem_cons_of_mem _ hx)
    have h3 := ShwAll.cons h1 h2 (Nat.le_refl 0) (Nat.le_refl 0)
    refine ⟨h3.sh, h3.lf, Nat.le_trans h3.wt ?_, h3.dp⟩
    rw [List.length_cons]
    omega
theorem shw_ds {many : Nat} (hm : many ≤ 1000) : ∀ {d : Ds}, DsOk many d → ShwAll (dsD d) (60 * d.cnt) (2 * d.dep)
  | .nil, _ => ShwAll.nil
  | .op w i x r, ⟨o1, o2, o3⟩ => by
    have hr := shw_ds hm (d := r) o3
    have hx := xok_small hm o2
    have hw : Shw (.str (dn w)) 10 0 := by cases w <;> exact .str (by decide) (by decide)
    have h1 := ShwAll.tup (.cons hw (.cons (.small (i := (i : Int)) (by omega)) (.cons (.small (i := x) (by omega)) .nil (Nat.le_refl 0) (Nat.le_refl 0)) (Nat.le_refl 0) (Nat.le_refl 0)) (Nat.le_refl 0) (Nat.le_refl 0))
    have h2 := ShwAll.cons h1 hr (k := 2 * max 1 r.dep) (by omega) (by omega)
    refine ⟨h2.sh, h2.lf, Nat.le_trans h2.wt ?_, h2.dp⟩
    show 10 + 1 + (15 + 1 + (15 + 1 + 0)) + 1 + 60 * r.cnt ≤ 60 * (1 + r.cnt)
    omega
  | .when i c a b r, ⟨o1, o2, o3, o4, o5⟩ => by
    have ha := (shw_ds hm (d := a) o3).tup
    have hb := (shw_ds hm (d := b) o4).tup
    have hr := shw_ds hm (d := r) o5
    have h1 := ShwAll.tup (.cons (.str (x := "when") (by decide) (by decide)) (.cons (.small (i := (i : Int)) (by omega)) (.cons (.small (i := c) (by omega)) (.cons ha (.cons hb .nil (k := 2 * max a.dep b.dep + 1) (by omega) (Nat.zero_le _)) (by omega) (Nat.le_refl _)) (Nat.zero_le _) (Nat.le_refl _)) (Nat.zero_le _) (Nat.le_refl _)) (Nat.zero_le _) (Nat.le_refl _))
    have h2 := ShwAll.cons h1 hr (k := 2 * max (max a.dep b.dep + 1) r.dep) (by omega) (by omega)
    refine ⟨h2.sh, h2.lf, Nat.le_trans h2.wt ?_, h2.dp⟩
    show 10 + 1 + (15 + 1 + (15 + 1 + (60 * a.cnt + 1 + (60 * b.cnt + 1 + 0)))) + 1 + 60 * r.cnt ≤ 60 * (1 + (a.cnt + b.cnt) + r.cnt)
    omega
theorem shw_list {α : Type} {f : α → PyData} {w k : Nat} : ∀ {xs : List α}, (∀ x ∈ xs, Shw (f x) w k) → ShwAll (xs.map f) ((w + 1) * xs.length) k
  | [], _ => ShwAll.nil
  | n :: r, h => by
    have h1 := h n (by simp)
    have h2 := shw_list (xs := r) fun x hx => h x (List.mem_cons_of_mem _ hx)
    have h3 := ShwAll.cons h1 h2 (Nat.le_refl k) (Nat.le_refl k)
    refine ⟨h3.sh, h3.lf, Nat.le_trans h3.wt ?_, h3.dp⟩
    rw [List.length_cons, Nat.mul_add]
    omega
/-- a doubter's weight -/
theorem shw_db {many dE dD cD : Nat} {D : Dbt} (hm : many ≤ 3) (hE : dE ≤ 8) (hD : dD ≤ 8) (o : DbOk many dE dD cD D) : Shw (dbD D) (120 + 3 * wgt dE + 180 * cD) 20 := by
  have h0 : Shw (.str D.name) 10 0 := by rcases o.nm with e | e | e | e <;> rw [e] <;> exact .str (by decide) (by decide)
  have h1 : Shw (.int (D.scale : Int)) 15 0 := .small (by have := o.sc; omega)
  have h2 := (shw_smalls o.rg.2).tup
  have h3 := (shw_list (f := toD) (w := wgt dE) (k := dE) fun e he => (shw_ex (many := many) (by omega) (o.st e he).1).mono (wgt_mono (o.st e he).2) (o.st e he).2).tup
  have h4 := (shw_list (f := fun d => PyData.tuple (dsD d)) (w := 60 * cD) (k := 2 * dD + 1) fun d hd => ((shw_ds (many := many) (by omega) (o.bh d hd).1).tup).mono (Nat.mul_le_mul_left _ (o.bh d hd).2.2) (by have := (o.bh d hd).2.1; omega)).tup
  have h5 := ShwAll.tup (.cons h0 (.cons h1 (.cons h2 (.cons h3 (.cons h4 (ShwAll.nil (k := 0)) (k := 18) (by omega) (by omega)) (by omega) (Nat.le_refl 18)) (by omega) (Nat.le_refl 18)) (by omega) (Nat.le_refl 18)) (by omega) (Nat.le_refl 18))
  refine h5.mono ?_ (by decide)
  rw [o.sl, o.bl, o.rg.1]
  have a1 : (wgt dE + 1) * many ≤ (wgt dE + 1) * 3 := Nat.mul_le_mul_left _ hm
  have a2 : (60 * cD + 1) * many ≤ (60 * cD + 1) * 3 := Nat.mul_le_mul_left _ hm
  omega
/-! ### promises -/
def spExprJ (K : PySem.W.Frag) (m : Nat) : Sp := fun vs H Q _ => ∃ (a : Addr) (many l n j : Nat), vs = [.ref a, .int (many : Int), .int (l : Int), .int (j : Int)] ∧ j ≤ 1 ∧ l < m ∧ 1 ≤ many ∧ many ≤ 1000 ∧ HandAt H a n ∧ n + cost l ≤ 999999000 ∧
  ∀ H' v e, But a H H' → HandAt H' a (n + cost l) → ExAt K H' e v → ExOk many e → e.dep ≤ l + 1 → Q v H'
/-- a stake: cut to its far -/
def spStake (K : PySem.W.Frag) (m : Nat) : Sp := fun vs H Q _ => ∃ (a : Addr) (many l n j : Nat), vs = [.ref a, .int (many : Int), .int (l : Int), .int (j : Int)] ∧ j ≤ 1 ∧ l < m ∧ 1 ≤ many ∧ many ≤ 1000 ∧ HandAt H a n ∧ n + cost l ≤ 999998000 ∧
  ∀ H' v e, But a H H' → HandAt H' a (n + cost l + 3) → ExAt K H' e v → ExOk many e → e.dep ≤ l + 3 → (∃ c : Int, e = .fig c ∧ -500 ≤ c ∧ c ≤ 500) ∨ (∃ (c : Int) (e' : Ex), e = .two .least (.fig c) (.two .most (.fig (-c)) e') ∧ 1 ≤ c ∧ c ≤ 500 ∧ ExOk many e' ∧ e'.dep ≤ l + 1) → Q v H'
def dB : Nat → Nat
  | 0 => 20
  | n + 1 => 2 * dB n + 30
def dC : Nat → Nat
  | 0 => 3
  | n + 1 => 2 * dC n + 4
theorem dC_ge (n : Nat) : 3 ≤ dC n := by
  cases n with
  | zero => exact Nat.le_refl _
  | succ n => show 3 ≤ 2 * dC n + 4; omega
theorem dB_ge (n : Nat) : 20 ≤ dB n := by
  cases n with
  | zero => exact Nat.le_refl _
  | succ n => show 20 ≤ 2 * dB n + 30; omega
def spDeeds (K : PySem.W.Frag) (m : Nat) : Sp := fun vs H Q _ => ∃ (a : Addr) (many l n : Nat), vs = [.ref a, .int (many : Int), .int (l : Int)] ∧ l < m ∧ l ≤ 3 ∧ 1 ≤ many ∧ many ≤ 1000 ∧ HandAt H a n ∧ n + dB l ≤ 999998000 ∧
  ∀ H' p xs d, But a H H' → HandAt H' a (n + dB l) → SqT K H' p xs → DsAt K H' d xs → DsOk many d → d.dep ≤ l + 1 → d.cnt ≤ dC l → Q (.ref p) H'
def StOk (many l : Nat) (e : Ex) : Prop := (∃ c : Int, e = .fig c ∧ -500 ≤ c ∧ c ≤ 500) ∨ (∃ (c : Int) (e' : Ex), e = .two .least (.fig c) (.two .most (.fig (-c)) e') ∧ 1 ≤ c ∧ c ≤ 500 ∧ ExOk many e' ∧ e'.dep ≤ l + 1)
def spDoubter (K : PySem.W.Frag) (m : Nat) : Sp := fun vs H Q _ => ∃ (a : Addr) (many l n j : Nat), vs = [.ref a, .int (many : Int), .int (l : Int), .int (j : Int)] ∧ j ≤ 1 ∧ l < m ∧ l ≤ 5 ∧ 1 ≤ many ∧ many ≤ 3 ∧ HandAt H a n ∧ n ≤ 999990000 ∧
  ∀ H' v D, But a H H' → HandAt H' a (n + 3 * cost l + 300) → DbAt K H' D v → DbOk many (l + 3) 2 10 D → (∀ e ∈ D.stakes, StOk many l e) → Q v H'
end NG

namespace NG
open PySem PySem.Spec PyProof.Rows L2
/-! ### zip of a list with a tuple -/
def ItLT (K : PySem.W.Frag) (a b : Addr) : It :=
  ⟨fun i H => ∃ (us ws : List V) (u v : V), SqL K H a us ∧ SqT K H b ws ∧ us[i]? = some u ∧ ws[i]? = some v,
   fun i H r H' => ∃ (T : Addr) (u v : V), r = .ref T ∧ H T = none ∧ H' = upd H T (.tup [u, v]) ∧ (∀ us, SqL K H a us → us[i]? = some u) ∧ ∀ ws, SqT K H b ws → ws[i]? = some v,
   fun i H => ∃ us ws : List V, SqL K H a us ∧ SqT K H b ws ∧ us.length = i ∧ ws.length = i⟩
theorem turn_LT {P : Program} {w : World} {K : PySem.W.Frag} {es : List Expr} {k : Nat} {ps : Pos} {a b z TI TO i1 i2 : Addr} (S : ZipSep2 z TI TO i1 i2 [i1, a] [i2, b]) (na : a ≠ i1) (nb : b ≠ i2) :
    Turn P w K (.Tuple es k ps) (ItLT K a b) [z, TI, TO, i1, i2] z (fun i h => IsZip h z TI TO .none ∧ IsTupOf2 h TI (.ref i1) (.ref i2) ∧ (∃ c d, IsTupOf2 h TO c d) ∧ h.IsListIter i1 a i ∧ h.IsTupleIter i2 b i) := by
  have five : ∀ {c : Addr}, c ∈ [z, TI, TO, i1, i2] → c = z ∨ c = TI ∨ c = TO ∨ c = i1 ∨ c = i2 := fun h => by simpa using h
  have lives : ∀ (i : Nat) (h : Heap), (IsZip h z TI TO .none ∧ IsTupOf2 h TI (.ref i1) (.ref i2) ∧ (∃ c d, IsTupOf2 h TO c d) ∧ h.IsListIter i1 a i ∧ h.IsTupleIter i2 b i) → ∀ c ∈ [z, TI, TO, i1, i2], ∃ o, h.get? c = some o ∧ ∀ v, o.data ≠ .cell v := fun i h st c hc => by
    obtain ⟨s1, s2, ⟨x, y, s3⟩, ⟨o4, s4, _, d4⟩, ⟨o5, s5, _, d5⟩⟩ := st
    rcases five hc with rfl | rfl | rfl | rfl | rfl
    · exact ⟨_, s1, fun v q => nomatch q⟩
    · exact ⟨_, s2, fun v q => nomatch q⟩
    · exact ⟨_, s3, fun v q => nomatch q⟩
    · exact ⟨o4, s4, fun v q => by rw [d4] at q; exact nomatch q⟩
    · exact ⟨o5, s5, fun v q => by rw [d5] at q; exact nomatch q⟩
  refine ⟨List.mem_cons_self, lives, fun i h h' st kp => ?_, fun X eP ew eK hc i pins s σ H E I hf st hg => ?_, fun X eP ew eK hc i pins s σ H E I hf st hg => ?_, fun A i s Q E st q => wpAny_pyIter_zip st.1 q⟩
  · obtain ⟨s1, s2, ⟨x, y, s3⟩, s4, s5⟩ := st
    exact ⟨kp _ (by simp) _ s1, kp _ (by simp) _ s2, ⟨x, y, kp _ (by simp) _ s3⟩, s4.at fun o q => kp _ (by simp) o q, s5.at fun o q => kp _ (by simp) o q⟩
  · cases eP
    cases ew
    cases eK
    have lv := lives i _ st
    obtain ⟨s1, s2, s3, s4, s5⟩ := st
    obtain ⟨us, ws, u, v, qa, qb, hu, hv⟩ := hg
    obtain ⟨la, ra, pa, _⟩ := I.list qa
    obtain ⟨lb, rb, pb, _⟩ := I.tuple qb
    obtain ⟨u', eu, ru⟩ := ra.get hu
    obtain ⟨v', ev', rv⟩ := rb.get hv
    have W := WalksT.zipD2 (A := X.A) S (Draws.list (prog := X.prog) (w := X.w) (A := X.A.in1) (I.ok.hd hc) i1 a na la.toArray) (Draws.tuple (A := X.A.in1) (I.ok.hd hc) i2 b nb lb.toArray)
    have il : i < la.length := (List.getElem?_eq_some_iff.mp eu).1
    have ir : i < lb.length := (List.getElem?_eq_some_iff.mp ev').1
    refine W.item i s _ E (by rw [List.size_toArray, List.size_toArray]; omega) ⟨s1, s2, s3, ⟨s4, pa.isList⟩, ⟨s5, pb⟩⟩ fun T vals h1 tk pv hT tT mid k1 => ⟨_, rfl, ?_⟩
    have apT := W.apart i T h1 mid
    refine W.go es k ps i T _ _ _ mid fun h2 st2 k2 => ?_
    obtain ⟨x1, x2, e1, e2, rfl⟩ := pv
    have f1 : x1 = u' := by
      have := e1.symm.trans (show la.toArray[i]? = some u' by simpa using eu)
      exact Option.some.inj this
    have f2 : x2 = v' := by
      have := e2.symm.trans (show lb.toArray[i]? = some v' by simpa using ev')
      exact Option.some.inj this
    subst f1 f2
    obtain ⟨z1, z2, z3, ⟨z4, _⟩, ⟨z5, _⟩⟩ := st2
    have tT2 : h2.IsTuple T #[x1, x2] := tT.at fun o e => k2 T o apT e
    have in5 : ∀ c, c ∉ [z, TI, TO, i1, i2] → c ∉ [z, TO, i1, i2] := fun c h m => h (by
      rcases (by simpa using m : c = z ∨ c = TO ∨ c = i1 ∨ c = i2) with rfl | rfl | rfl | rfl <;> simp)
    have J := I.turnedNew (h' := h2) (t' := tk) (ch := [z, TI, TO, i1, i2]) (T := T) (ob := .tup [u, v]) (fun c o hb' q => k2 c o (in5 c hb') (k1 c o (in5 c hb') q)) hf hT ⟨(by show 2 ≤ sizeLine; decide), [x1, x2], .cons ru (.cons rv .nil), tT2⟩
    refine ⟨.ref T, _, J, rfl, ⟨T, u, v, rfl, I.hok.fresh hT, rfl, fun l hl => ?_, fun l hl => ?_⟩, ⟨z1, z2, z3, z4, z5⟩, fun c hcm => ?_⟩
    · rw [I.list_inj hl qa]
      exact hu
    · rw [I.tuple_inj hl qb]
      exact hv
    · obtain ⟨o, ho, _⟩ := lv c hcm
      have lt := Heap.lt_size ho
      rw [upd_ne (Nat.ne_of_lt (Nat.lt_of_lt_of_le lt hT))]
      exact (hf c hcm).1
  · cases eP
    cases ew
    cases eK
    obtain ⟨s1, s2, s3, s4, s5⟩ := st
    obtain ⟨us, ws, qa, qb, e1, e2⟩ := hg
    obtain ⟨la, ra, pa, _⟩ := I.list qa
    obtain ⟨lb, rb, pb, _⟩ := I.tuple qb
    have W := WalksT.zipD2 (A := X.A) S (Draws.list (prog := X.prog) (w := X.w) (A := X.A.in1) (I.ok.hd hc) i1 a na la.toArray) (Draws.tuple (A := X.A.in1) (I.ok.hd hc) i2 b nb lb.toArray)
    have l1 := ra.length
    have l2 := rb.length
    have en : min la.toArray.size lb.toArray.size = i := by
      rw [List.size_toArray, List.size_toArray]
      omega
    rw [en] at W
    refine W.done s _ E ⟨s1, s2, s3, ⟨s4, pa.isList⟩, ⟨s5, pb⟩⟩ fun h1 tk k1 => ⟨rfl, ?_⟩
    exact I.turnedL (t' := tk) (ch := [z, TI, TO, i1, i2]) (fun c o hb' q => k1 c o (fun m => hb' (by rcases (by simpa using m : c = z ∨ c = TO ∨ c = i1 ∨ c = i2) with rfl | rfl | rfl | rfl <;> simp)) q) hf
def iZipLT (K : PySem.W.Frag) (ta : TA) : TI := fun σ H R => ta σ H fun vs H1 => ∃ a b us ws, vs = [.ref a, .ref b] ∧ SqL K H1 a us ∧ SqT K H1 b ws ∧ R (ItLT K a b) H1
theorem pi_zipLT {X : Cx} {e e2 : Expr} {ta : TA} {p pos tpos : Pos} {elts : List Expr} {kk : Nat} (hg : Gl X "zip") (hm : X.mg "zip" = none) (ha : PA X [e, e2] ta)
    (hs : starEach [e, e2] X.env = (false, eval e X.env) :: starEach [e2] X.env := by rfl) (hpl : (backTo pos (starEach [e2] X.env)).any (·.1) = false := by rfl) : PI X (.Tuple elts kk tpos) (.Call (.Name "zip" p) [e, e2] [] pos) (iZipLT X.K ta) := by
  refine ⟨fun pins s σ H R I h => Call_ (ld_blt I hg hm PyProof.Rows.boot_zip (PyProof.Rows.callWith_type1 (thn (ha.run pos pins s σ H _ I h) fun us s1 ⟨vs, H1, I1, r1, q1⟩ => ?_) hs hpl))⟩
  obtain ⟨a, b, ul, wl, rfl, qa, qb, q⟩ := q1
  obtain ⟨v1, v2, rfl, t1, t2⟩ := vals2 r1
  cases t1
  cases t2
  obtain ⟨la, ra, pa, _⟩ := I1.list qa
  obtain ⟨lb, rb, pb, _⟩ := I1.tuple qb
  obtain ⟨ob, hob, _⟩ := id pb
  have lt1 : a < s1.heap.objs.size := pa.lt
  have lt2 : b < s1.heap.objs.size := Heap.lt_size hob
  refine zip_begins2 (begins_list a la.toArray) (begins_tuple b lb.toArray) pa.isList pb fun h' hz hTI hTO g1 g2 hsz hk => wpAny_pyIter_zip hz ?_
  have J : Inv X pins σ H1 { s1 with heap := h' } := I1.kept (t' := s1.toks) hk
  have S := zip_sep2 (N := s1.heap.objs.size) (fp1 := [a]) (fp2 := [b]) (fun c hc => by rw [List.mem_singleton.mp hc]; exact lt1) (fun c hc => by rw [List.mem_singleton.mp hc]; exact lt2)
  refine ⟨_, _, _, _, H1, rfl, J, turn_LT S (Nat.ne_of_lt lt1) (Nat.ne_of_lt (Nat.lt_succ_of_lt lt2)), ⟨hz, hTI, ⟨_, _, hTO⟩, ⟨_, g1, rfl, rfl⟩, ⟨_, g2, rfl, rfl⟩⟩, fun c hcm => ?_, q⟩
  have le : s1.heap.objs.size ≤ c := by
    rcases (by simpa using hcm : c = s1.heap.objs.size + 4 ∨ c = s1.heap.objs.size + 2 ∨ c = s1.heap.objs.size + 3 ∨ c = s1.heap.objs.size ∨ c = s1.heap.objs.size + 1) with e | e | e | e | e <;> (rw [e]; first | exact Nat.le_refl _ | exact Nat.le_add_right _ _)
  exact I1.fpOk le (I1.hok.fresh le)
theorem walk_LT {K : PySem.W.Frag} {a b : Addr} {us ws : List V} {n : Nat} (hx : us.length = n) (hy : ws.length = n) : Walk (ItLT K a b) n (fun H => SqL K H a us ∧ SqT K H b ws) (YPair (fun i => us[i]?) (fun i => ws[i]?)) := by
  refine ⟨fun i H hi q => ⟨us, ws, us[i]'(by omega), ws[i]'(by omega), q.1, q.2, List.getElem?_eq_getElem _, List.getElem?_eq_getElem _⟩, fun H q => ⟨us, ws, q.1, q.2, hx, hy⟩, fun i H v H' hi q y => ?_⟩
  obtain ⟨T, x, z, h1, h2, h3, h4, h5⟩ := y
  exact ⟨T, x, z, h1, h2, h3, h4 us q.1, h5 ws q.2⟩
end NG

namespace NG
open PySem PySem.Spec PyProof.Rows L2
/-! ### enumerate of a tuple -/
set_option maxHeartbeats 1000000 in
theorem enum_new1 {v : Value} {ob : Obj} {Hv : Heap → Prop} (B : Begins v ob Hv) :
    Meets (Builtin.«enumerate.__new__» ⟨[.type "enumerate", v], []⟩) (fun _ R st => Hv st.heap ∧ R (.ok (.ret (.ref (st.heap.push ob).objs.size))) { st with heap := (st.heap.push ob).push { cls := .type "enumerate", data := .fields #[.none, .bool false, .ref st.heap.objs.size, rawInt 0, .none, .none] } }) := by
  refine .of_wp fun pr wl A R st h => ?_
  obtain ⟨hp, g, d, tk, os⟩ := st
  obtain ⟨hv, hR⟩ := h
  have se := sub_enumerate
  have qi : ∀ {A' : Around} {E : Value → Shared → Prop} {Q : Value → Shared → Prop}, Q (.ref hp.objs.size) ⟨hp.push ob, g, d, tk, os⟩ → wpAny (model pr wl) A' (pyIter v) Q E ⟨hp, g, d, tk, os⟩ := fun q => B.iter pr wl _ _ ⟨hp, g, d, tk, os⟩ _ hv q
  wp_walk using qi
  refine wpAny_stack_any fun sk => wpAny_pure ?_
  split
  · rename_i c _ _ _ _ _
    cases (c == Value.type "enumerate")
    all_goals
      wp_walk using qi
      exact ⟨_, rfl, hR⟩
  · wp_walk using qi
    exact ⟨_, rfl, hR⟩
theorem enum_call1 {pr : Program} {wl : World} {A : Around} {E : Value → Shared → Prop} {st : Shared} {v : Value} {ob : Obj} {Hv : Heap → Prop} {Q : Value → Shared → Prop} (B : Begins v ob Hv) (hv : Hv st.heap)
    (hQ : ∀ h', IsEnum h' (st.heap.objs.size + 1) st.heap.objs.size 0 .none → h'.get? st.heap.objs.size = some ob → (∀ b o, st.heap.get? b = some o → h'.get? b = some o) → Q (.ref (st.heap.objs.size + 1)) { st with heap := h' }) : wpAny (model pr wl) A (call (.type "enumerate") [v]) Q E st := by
  refine callType_new F.called_enumerate (by decide) (F.typeCall_enumerate_1 _) (F.newCall_enumerate_1 _) (fun x => F.args_object_init_2 x _) F.entry_enumerate_new (enum_new1 B) ⟨hv, ?_⟩
  have sz : (st.heap.push ob).objs.size = st.heap.objs.size + 1 := Heap.size_push ..
  show _ ∧ _
  rw [sz]
  have ie : IsEnum ((st.heap.push ob).push { cls := .type "enumerate", data := .fields #[.none, .bool false, .ref st.heap.objs.size, rawInt 0, .none, .none] }) (st.heap.objs.size + 1) st.heap.objs.size 0 .none := by
    have t := Heap.get?_push_size (st.heap.push ob) (o := { cls := .type "enumerate", data := .fields #[.none, .bool false, .ref st.heap.objs.size, rawInt 0, .none, .none] }) rfl
    rw [sz] at t
    exact t
  exact ⟨⟨_, ie, rfl⟩, hQ _ ie (Heap.get?_push_of_some _ (Heap.get?_push_size _ B.free)) fun b o x => Heap.get?_push_of_some _ (Heap.get?_push_of_some _ x)⟩
def ItEn (K : PySem.W.Frag) (a : Addr) : It :=
  ⟨fun i H => ∃ (ws : List V) (v : V), SqT K H a ws ∧ ws[i]? = some v,
   fun i H r H' => ∃ (T : Addr) (v : V), r = .ref T ∧ H T = none ∧ H' = upd H T (.tup [.int (i : Nat), v]) ∧ ∀ ws, SqT K H a ws → ws[i]? = some v,
   fun i H => ∃ ws : List V, SqT K H a ws ∧ ws.length = i⟩
theorem turn_En {P : Program} {w : World} {K : PySem.W.Frag} {es : List Expr} {k : Nat} {ps : Pos} {a e it : Addr} (ne : e ≠ it) (nea : e ≠ a) (na : a ≠ it) :
    Turn P w K (.Tuple es k ps) (ItEn K a) [e, it] e (fun i h => (∃ old, IsEnum h e it ((i : Nat) : Int) old) ∧ h.IsTupleIter it a i) := by
  have two : ∀ {c : Addr}, c ∈ [e, it] → c = e ∨ c = it := fun h => by simpa using h
  have lives : ∀ (i : Nat) (h : Heap), ((∃ old, IsEnum h e it ((i : Nat) : Int) old) ∧ h.IsTupleIter it a i) → ∀ c ∈ [e, it], ∃ o, h.get? c = some o ∧ ∀ v, o.data ≠ .cell v := fun i h st c hc => by
    obtain ⟨⟨old, s1⟩, ⟨o5, s5, _, d5⟩⟩ := st
    rcases two hc with rfl | rfl
    · exact ⟨_, s1, fun v q => nomatch q⟩
    · exact ⟨o5, s5, fun v q => by rw [d5] at q; exact nomatch q⟩
  have hef : e ∉ [it, a] := fun m => by
    rcases (by simpa using m : e = it ∨ e = a) with q | q
    · exact ne q
    · exact nea q
  refine ⟨List.mem_cons_self, lives, fun i h h' st kp => ?_, fun X eP ew eK hc i pins s σ H E I hf st hg => ?_, fun X eP ew eK hc i pins s σ H E I hf st hg => ?_, fun A i s Q E st q => let ⟨⟨_, z⟩, _⟩ := st; wpAny_pyIter_enum z q⟩
  · obtain ⟨⟨old, s1⟩, s5⟩ := st
    exact ⟨⟨old, kp _ (by simp) _ s1⟩, s5.at fun o q => kp _ (by simp) o q⟩
  · cases eP
    cases ew
    cases eK
    have lv := lives i _ st
    obtain ⟨s1, s5⟩ := st
    obtain ⟨ws, v, qb, hv⟩ := hg
    obtain ⟨lb, rb, pb, _⟩ := I.tuple qb
    obtain ⟨v', ev', rv⟩ := rb.get hv
    have W := WalksT.enumerateD (A := X.A) (Draws.tuple (prog := X.prog) (w := X.w) (A := X.A.in1) (I.ok.hd hc) it a na lb.toArray) e ne hef List.mem_cons_self
    have ir : i < lb.length := (List.getElem?_eq_some_iff.mp ev').1
    refine W.item i s _ E (by rw [List.size_toArray]; omega) ⟨s1, s5, pb⟩ fun T vals h1 tk pv hT tT mid k1 => ⟨_, rfl, ?_⟩
    have apT := W.apart i T h1 mid
    refine W.go es k ps i T _ _ _ mid fun h2 st2 k2 => ?_
    obtain ⟨t2, x2, e2, rfl⟩ := pv
    have f2 : x2 = v' := by
      have := e2.symm.trans (show lb.toArray[i]? = some v' by simpa using ev')
      exact Option.some.inj this
    subst f2
    obtain ⟨z1, z5, _⟩ := st2
    have tT2 : h2.IsTuple T #[.int i t2, x2] := tT.at fun o e => k2 T o apT e
    have J := I.turnedNew (h' := h2) (t' := tk) (ch := [e, it]) (T := T) (ob := .tup [.int (i : Nat), v]) (fun c o hb' q => k2 c o hb' (k1 c o hb' q)) hf hT ⟨(by show 2 ≤ sizeLine; decide), [.int i t2, x2], .cons ⟨_, rfl⟩ (.cons rv .nil), tT2⟩
    refine ⟨.ref T, _, J, rfl, ⟨T, v, rfl, I.hok.fresh hT, rfl, fun l hl => ?_⟩, ⟨z1, z5⟩, fun c hcm => ?_⟩
    · rw [I.tuple_inj hl qb]
      exact hv
    · obtain ⟨o, ho, _⟩ := lv c hcm
      have lt := Heap.lt_size ho
      rw [upd_ne (Nat.ne_of_lt (Nat.lt_of_lt_of_le lt hT))]
      exact (hf c hcm).1
  · cases eP
    cases ew
    cases eK
    obtain ⟨s1, s5⟩ := st
    obtain ⟨ws, qb, e2⟩ := hg
    obtain ⟨lb, rb, pb, _⟩ := I.tuple qb
    have W := WalksT.enumerateD (A := X.A) (Draws.tuple (prog := X.prog) (w := X.w) (A := X.A.in1) (I.ok.hd hc) it a na lb.toArray) e ne hef List.mem_cons_self
    have l2 := rb.length
    have en : lb.toArray.size = i := by
      rw [List.size_toArray]
      omega
    rw [en] at W
    refine W.done s _ E ⟨s1, s5, pb⟩ fun h1 tk k1 => ⟨rfl, ?_⟩
    exact I.turnedL (t' := tk) (ch := [e, it]) (fun c o hb' q => k1 c o hb' q) hf
def iEnT (K : PySem.W.Frag) (ta : TA) : TI := fun σ H R => ta σ H fun vs H1 => ∃ a ws, vs = [.ref a] ∧ SqT K H1 a ws ∧ R (ItEn K a) H1
theorem pi_enumT {X : Cx} {x : Expr} {ta : TA} {p pos tpos : Pos} {elts : List Expr} {kk : Nat} (hg : Gl X "enumerate") (hm : X.mg "enumerate" = none) (ha : PA X [x] ta)
    (hs : starEach [x] X.env = [(false, eval x X.env)] := by rfl) : PI X (.Tuple elts kk tpos) (.Call (.Name "enumerate" p) [x] [] pos) (iEnT X.K ta) := by
  refine ⟨fun pins s σ H R I h => Call_ (ld_blt I hg hm boot_enumerate (PyProof.Rows.callWith_type1 (thn (ha.run pos pins s σ H _ I h) fun us s1 ⟨vs, H1, I1, r1, q1⟩ => ?_) hs rfl))⟩
  obtain ⟨a, wl, rfl, qb, q⟩ := q1
  rw [Vals.ref1 r1]
  obtain ⟨lb, rb, pb, _⟩ := I1.tuple qb
  obtain ⟨ob, hob, _⟩ := id pb
  have lt2 : a < s1.heap.objs.size := Heap.lt_size hob
  refine enum_call1 (begins_tuple a lb.toArray) pb fun h' he g2 hk => wpAny_pyIter_enum he ?_
  have J : Inv X pins σ H1 { s1 with heap := h' } := I1.kept (t' := s1.toks) hk
  refine ⟨_, _, _, _, H1, rfl, J, turn_En (a := a) (e := s1.heap.objs.size + 1) (it := s1.heap.objs.size) (Nat.succ_ne_self _) (Nat.ne_of_gt (Nat.lt_succ_of_lt lt2)) (Nat.ne_of_lt lt2), ⟨⟨.none, he⟩, ⟨_, g2, rfl, rfl⟩⟩, fun c hcm => ?_, q⟩
  have le : s1.heap.objs.size ≤ c := by
    rcases (by simpa using hcm : c = s1.heap.objs.size + 1 ∨ c = s1.heap.objs.size) with e | e <;> (rw [e]; first | exact Nat.le_refl _ | exact Nat.le_add_right _ _)
  exact I1.fpOk le (I1.hok.fresh le)
theorem walk_En {K : PySem.W.Frag} {a : Addr} {ws : List V} {n : Nat} (hy : ws.length = n) : Walk (ItEn K a) n (fun H => SqT K H a ws) (YPair (fun i => some (.int (i : Nat))) (fun i => ws[i]?)) := by
  refine ⟨fun i H hi q => ⟨ws, ws[i]'(by omega), q, List.getElem?_eq_getElem _⟩, fun H q => ⟨ws, q, hy⟩, fun i H v H' hi q y => ?_⟩
  obtain ⟨T, z, h1, h2, h3, h4⟩ := y
  exact ⟨T, .int (i : Nat), z, h1, h2, h3, rfl, h4 ws q⟩
end NG

namespace NG
open PySem PySem.Spec PyProof.Rows L2
/-! ### signs and registers exchanged -/
def ldx (sg nm : List Nat) : Ex → Ex
  | .fig c => .fig c
  | .reg i => .reg (nm.getD i 0)
  | .share j => .share (sg.getD j 0)
  | .two w a b => .two w (ldx sg nm a) (ldx sg nm b)
  | .times f a => .times f (ldx sg nm a)
  | .by i a => .by (nm.getD i 0) (ldx sg nm a)
  | .when i c a b => .when (nm.getD i 0) c (ldx sg nm a) (ldx sg nm b)
  | .whr j c a b => .whr (sg.getD j 0) c (ldx sg nm a) (ldx sg nm b)
def ldI (sg nm : List Nat) : Itm → Itm
  | .k e => .k (ldx sg nm e)
  | .s x => .s x
  | .i c => .i c
/-- the second item, exchanged where it is a sign or a register -/
def snd (sg nm : List Nat) : Ex → Itm
  | .fig c => .i c
  | .reg i => .i ((nm.getD i 0 : Nat) : Int)
  | .share j => .i ((sg.getD j 0 : Nat) : Int)
  | .two _ a _ => .k a
  | .times f _ => .i f
  | .by i _ => .i ((nm.getD i 0 : Nat) : Int)
  | .when i _ _ _ => .i ((nm.getD i 0 : Nat) : Int)
  | .whr j _ _ _ => .i ((sg.getD j 0 : Nat) : Int)
theorem ldx_word (sg nm : List Nat) (e : Ex) : wordOf (ldx sg nm e) = wordOf e := by cases e <;> rfl
theorem ldx_rest (sg nm : List Nat) (e : Ex) : (ldx sg nm e).rest = ldI sg nm (snd sg nm e) :: (e.rest.drop 1).map (ldI sg nm) := by cases e <;> rfl
theorem ldx_dep (sg nm : List Nat) : ∀ e : Ex, (ldx sg nm e).dep = e.dep
  | .fig _ => rfl
  | .reg _ => rfl
  | .share _ => rfl
  | .two _ a b => by show max _ _ + 1 = max _ _ + 1; rw [ldx_dep sg nm a, ldx_dep sg nm b]
  | .times _ a => by show _ + 1 = _ + 1; rw [ldx_dep sg nm a]
  | .by _ a => by show _ + 1 = _ + 1; rw [ldx_dep sg nm a]
  | .when _ _ a b => by show max _ _ + 1 = max _ _ + 1; rw [ldx_dep sg nm a, ldx_dep sg nm b]
  | .whr _ _ a b => by show max _ _ + 1 = max _ _ + 1; rw [ldx_dep sg nm a, ldx_dep sg nm b]
theorem ldx_ok {sg nm : List Nat} {many m2 : Nat} (hs : ∀ j, j < many → sg.getD j 0 < m2) (hn : ∀ i, i < 4 → nm.getD i 0 < 4) : ∀ {e : Ex}, ExOk many e → ExOk m2 (ldx sg nm e)
  | .fig _, o => o
  | .reg i, o => hn i o
  | .share j, o => hs j o
  | .two _ a b, o => ⟨ldx_ok hs hn o.1, ldx_ok hs hn o.2⟩
  | .times _ a, o => ⟨o.1, ldx_ok hs hn o.2⟩
  | .by i a, o => ⟨hn i o.1, ldx_ok hs hn o.2⟩
  | .when i _ a b, o => ⟨hn i o.1, o.2.1, ldx_ok hs hn o.2.2.1, ldx_ok hs hn o.2.2.2⟩
  | .whr j _ a b, o => ⟨hs j o.1, o.2.1, ldx_ok hs hn o.2.2.1, ldx_ok hs hn o.2.2.2⟩
theorem ldx_spn (sg nm : List Nat) : ∀ e : Ex, spn (ldx sg nm e) = spn e
  | .fig _ => rfl
  | .reg _ => rfl
  | .share _ => rfl
  | .two w a b => by show js w _ _ = js w _ _; rw [ldx_spn sg nm a, ldx_spn sg nm b]
  | .times f a => by
    show (mn (f * (spn (ldx sg nm a)).1) (f * (spn (ldx sg nm a)).2), mx (f * (spn (ldx sg nm a)).1) (f * (spn (ldx sg nm a)).2)) = _
    rw [ldx_spn sg nm a]
    rfl
  | .by _ a => by
    show (-1000 * mx (ab (spn (ldx sg nm a)).1) (ab (spn (ldx sg nm a)).2), 1000 * mx (ab (spn (ldx sg nm a)).1) (ab (spn (ldx sg nm a)).2)) = _
    rw [ldx_spn sg nm a]
    rfl
  | .when _ _ a b => by
    show (mn (spn (ldx sg nm a)).1 (spn (ldx sg nm b)).1, mx (spn (ldx sg nm a)).2 (spn (ldx sg nm b)).2) = _
    rw [ldx_spn sg nm a, ldx_spn sg nm b]
    rfl
  | .whr _ _ a b => by
    show (mn (spn (ldx sg nm a)).1 (spn (ldx sg nm b)).1, mx (spn (ldx sg nm a)).2 (spn (ldx sg nm b)).2) = _
    rw [ldx_spn sg nm a, ldx_spn sg nm b]
    rfl
theorem ldx_lb (sg nm : List Nat) : ∀ e : Ex, lvs (ldx sg nm e) = lvs e ∧ bds (ldx sg nm e) = bds e
  | .fig _ => ⟨rfl, rfl⟩
  | .reg _ => ⟨rfl, rfl⟩
  | .share _ => ⟨rfl, rfl⟩
  | .two w a b => by
    have ha := ldx_lb sg nm a
    have hb := ldx_lb sg nm b
    cases w <;> simp only [ldx, lvs, bds, ha.1, ha.2, hb.1, hb.2, and_self]
  | .times _ a => ldx_lb sg nm a
  | .by _ a => ldx_lb sg nm a
  | .when _ _ a b => by
    have ha := ldx_lb sg nm a
    have hb := ldx_lb sg nm b
    simp only [ldx, lvs, bds, ha.1, ha.2, hb.1, hb.2, and_self]
  | .whr _ _ a b => by
    have ha := ldx_lb sg nm a
    have hb := ldx_lb sg nm b
    simp only [ldx, lvs, bds, ha.1, ha.2, hb.1, hb.2, and_self]
theorem ldx_wo {sg nm : List Nat} {rs ss rs' ss' : List Int} {many : Nat} (hr : ∀ i, i < 4 → rs'.getD (nm.getD i 0) 0 = rs.getD i 0) (hs : ∀ j, j < many → ss'.getD (sg.getD j 0) 0 = ss.getD j 0) (hS : ss'.sum = ss.sum) : ∀ {e : Ex}, ExOk many e → wo rs' ss' (ldx sg nm e) = wo rs ss e
  | .fig c, _ => by show c * _ = c * _; rw [hS]
  | .reg i, o => by show rs'.getD (nm.getD i 0) 0 * _ = rs.getD i 0 * _; rw [hS, hr i o]
  | .share j, o => by show 1000 * ss'.getD (sg.getD j 0) 0 = 1000 * ss.getD j 0; rw [hs j o]
  | .two w a b, o => by show jw w _ _ = jw w _ _; rw [ldx_wo hr hs hS o.1, ldx_wo hr hs hS o.2]
  | .times f a, o => by show f * _ = f * _; rw [ldx_wo hr hs hS o.2]
  | .by i a, o => by show rs'.getD (nm.getD i 0) 0 * _ = rs.getD i 0 * _; rw [ldx_wo hr hs hS o.2, hr i o.1]
  | .when i c a b, o => by
    show (if rs'.getD (nm.getD i 0) 0 < c then wo rs' ss' (ldx sg nm a) else wo rs' ss' (ldx sg nm b)) = if rs.getD i 0 < c then wo rs ss a else wo rs ss b
    rw [hr i o.1, ldx_wo hr hs hS o.2.2.1, ldx_wo hr hs hS o.2.2.2]
  | .whr j c a b, o => by
    show (if 1000 * ss'.getD (sg.getD j 0) 0 < c * ss'.sum then wo rs' ss' (ldx sg nm a) else wo rs' ss' (ldx sg nm b)) = if 1000 * ss.getD j 0 < c * ss.sum then wo rs ss a else wo rs ss b
    rw [hs j o.1, hS, ldx_wo hr hs hS o.2.2.1, ldx_wo hr hs hS o.2.2.2]
theorem ItsAt.c1 {K : PySem.W.Frag} {H : Hp} {xs : List V} {t : Itm} {ts : List Itm} (h : ItsAt K H xs (t :: ts)) : ∃ v vs, xs = v :: vs ∧ ItAt K H t v ∧ ItsAt K H vs ts := by
  cases xs with
  | nil => exact h.elim
  | cons v vs => exact ⟨v, vs, rfl, h.1, h.2⟩
theorem ItsAt.c0 {K : PySem.W.Frag} {H : Hp} {xs : List V} (h : ItsAt K H xs []) : xs = [] := by
  cases xs with
  | nil => rfl
  | cons v vs => exact h.elim
theorem ExAt.of_rst {K : PySem.W.Frag} {H : Hp} {p : Addr} {e : Ex} {xs : List V} (q : SqT K H p (.str (wordOf e) :: xs)) (h : ItsAt K H xs e.rest) : ExAt K H e (.ref p) := by
  cases e with
  | fig c =>
    obtain ⟨v, vs, rfl, h1, h2⟩ := ItsAt.c1 (t := .i c) (ts := []) h
    cases h2.c0
    have h1 : v = .int c := h1
    subst h1
    exact ⟨p, rfl, q⟩
  | reg c =>
    obtain ⟨v, vs, rfl, h1, h2⟩ := ItsAt.c1 (t := .i (c : Int)) (ts := []) h
    cases h2.c0
    have h1 : v = .int (c : Int) := h1
    subst h1
    exact ⟨p, rfl, q⟩
  | share c =>
    obtain ⟨v, vs, rfl, h1, h2⟩ := ItsAt.c1 (t := .i (c : Int)) (ts := []) h
    cases h2.c0
    have h1 : v = .int (c : Int) := h1
    subst h1
    exact ⟨p, rfl, q⟩
  | two w a b =>
    obtain ⟨v, vs, rfl, h1, h2⟩ := ItsAt.c1 (t := .k a) (ts := [.k b]) h
    obtain ⟨v2, vs2, rfl, h3, h4⟩ := h2.c1
    cases h4.c0
    exact ⟨p, v, v2, rfl, q, h1, h3⟩
  | times f a =>
    obtain ⟨v, vs, rfl, h1, h2⟩ := ItsAt.c1 (t := .i f) (ts := [.k a]) h
    obtain ⟨v2, vs2, rfl, h3, h4⟩ := h2.c1
    cases h4.c0
    have h1 : v = .int f := h1
    subst h1
    exact ⟨p, v2, rfl, q, h3⟩
  | «by» i a =>
    obtain ⟨v, vs, rfl, h1, h2⟩ := ItsAt.c1 (t := .i (i : Int)) (ts := [.k a]) h
    obtain ⟨v2, vs2, rfl, h3, h4⟩ := h2.c1
    cases h4.c0
    have h1 : v = .int (i : Int) := h1
    subst h1
    exact ⟨p, v2, rfl, q, h3⟩
  | when i c a b =>
    obtain ⟨v, vs, rfl, h1, h2⟩ := ItsAt.c1 (t := .i (i : Int)) (ts := [.i c, .k a, .k b]) h
    obtain ⟨v2, vs2, rfl, h3, h4⟩ := h2.c1
    obtain ⟨v3, vs3, rfl, h5, h6⟩ := h4.c1
    obtain ⟨v4, vs4, rfl, h7, h8⟩ := h6.c1
    cases h8.c0
    have h1 : v = .int (i : Int) := h1
    have h3 : v2 = .int c := h3
    subst h1 h3
    exact ⟨p, v3, v4, rfl, q, h5, h7⟩
  | whr i c a b =>
    obtain ⟨v, vs, rfl, h1, h2⟩ := ItsAt.c1 (t := .i (i : Int)) (ts := [.i c, .k a, .k b]) h
    obtain ⟨v2, vs2, rfl, h3, h4⟩ := h2.c1
    obtain ⟨v3, vs3, rfl, h5, h6⟩ := h4.c1
    obtain ⟨v4, vs4, rfl, h7, h8⟩ := h6.c1
    cases h8.c0
    have h1 : v = .int (i : Int) := h1
    have h3 : v2 = .int c := h3
    subst h1 h3
    exact ⟨p, v3, v4, rfl, q, h5, h7⟩
theorem ItAt.same {K : PySem.W.Frag} {H H' : Hp} {t : Itm} {v : V} (h : ItAt K H t v) (sm : Same H H') : ItAt K H' t v := by
  cases t with
  | s x => exact h
  | i c => exact h
  | k e => exact ExAt.same (e := e) h sm
theorem ItAt.put {K : PySem.W.Frag} {H : Hp} {t : Itm} {v : V} {D : Addr} {us us' : List V} (h : ItAt K H t v) (hD : H D = some (.lst us)) : ItAt K (upd H D (.lst us')) t v := by
  cases t with
  | s x => exact h
  | i c => exact h
  | k e => exact ExAt.imp (e := e) (fun _ _ q => put_sqt hD q) h
theorem ItsAt.put {K : PySem.W.Frag} {H : Hp} {D : Addr} {us us' : List V} (hD : H D = some (.lst us)) : ∀ {vs : List V} {ts : List Itm}, ItsAt K H vs ts → ItsAt K (upd H D (.lst us')) vs ts
  | [], [], _ => trivial
  | _ :: _, _ :: _, ⟨x, r⟩ => ⟨ItAt.put x hD, r.put hD⟩
theorem ItsAt.snoc {K : PySem.W.Frag} {H : Hp} {v : V} {t : Itm} (x : ItAt K H t v) : ∀ {vs : List V} {ts : List Itm}, ItsAt K H vs ts → ItsAt K H (vs ++ [v]) (ts ++ [t])
  | [], [], _ => ⟨x, trivial⟩
  | _ :: _, _ :: _, ⟨y, r⟩ => ⟨y, r.snoc x⟩
/-! ### orders -/
def potI (xs : List Nat) : List Int := xs.map fun x : Nat => (x : Int)
theorem perm_sum {xs ys : List Int} (h : xs.Perm ys) : xs.sum = ys.sum := by
  induction h with
  | nil => rfl
  | cons x _ ih => rw [List.sum_cons, List.sum_cons, ih]
  | swap x y l => rw [List.sum_cons, List.sum_cons, List.sum_cons, List.sum_cons]; omega
  | trans _ _ h1 h2 => exact h1.trans h2
theorem erase_perm : ∀ {xs : List Nat} {k x : Nat}, xs[k]? = some x → xs.Perm (x :: xs.eraseIdx k)
  | [], _, _, h => by simp at h
  | y :: ys, 0, x, h => by
    have e : y = x := Option.some.inj h
    subst e
    exact List.Perm.refl _
  | y :: ys, k + 1, x, h => ((erase_perm (xs := ys) (k := k) h).cons y).trans (List.Perm.swap _ _ _)
/-- what stands in the places of an order -/
structure Mvd (os : List Nat) (row ms : List Int) : Prop where
  len : ms.length = row.length
  get : ∀ i, i < row.length → ms.getD (os.getD i 0) 0 = row.getD i 0
  sum : ms.sum = row.sum
  mem : ∀ x ∈ ms, x ∈ row
theorem range_getD (ms : List Int) : (List.range ms.length).map (fun k => ms.getD k 0) = ms := by
  apply List.ext_getElem
  · rw [List.length_map, List.length_range]
  · intro i h1 h2
    rw [List.getElem_map, List.getElem_range, List.getD_eq_getElem?_getD, List.getElem?_eq_getElem h2]
    rfl
theorem mvd_of {os : List Nat} {row ms : List Int} (hp : os.Perm (List.range row.length)) (hl : ms.length = row.length) (hg : ∀ i, i < row.length → ms.getD (os.getD i 0) 0 = row.getD i 0) : Mvd os row ms := by
  have ol : os.length = row.length := by rw [hp.length_eq, List.length_range]
  have e1 : os.map (fun k => ms.getD k 0) = row := by
    apply List.ext_getElem
    · rw [List.length_map, ol]
    · intro i h1 h2
      have := hg i h2
      rw [List.getD_eq_getElem?_getD (l := os), List.getElem?_eq_getElem (by omega), List.getD_eq_getElem?_getD (l := row), List.getElem?_eq_getElem h2] at this
      rw [List.getElem_map]
      exact this
  have e2 := range_getD ms
  rw [hl] at e2
  have pm : row.Perm ms := by
    have := hp.map (fun k => ms.getD k 0)
    rw [e1, e2] at this
    exact this
  exact ⟨hl, hg, (perm_sum pm).symm, fun x hx => pm.symm.mem_iff.mp hx⟩
end NG

namespace NG
open PySem PySem.Spec PyProof.Rows L2
/-! ### rewritten by laws of numbers: the same worth everywhere -/
def Sm (e e' : Ex) : Prop := ∀ rs ss : List Int, wo rs ss e' = wo rs ss e
theorem Sm.refl (e : Ex) : Sm e e := fun _ _ => rfl
theorem Sm.trans {a b c : Ex} (h : Sm a b) (k : Sm b c) : Sm a c := fun rs ss => (k rs ss).trans (h rs ss)
theorem sm_swap {w : W4} {a b : Ex} (hw : w ≠ .less) : Sm (.two w a b) (.two w b a) := fun rs ss => by
  show jw w (wo rs ss b) (wo rs ss a) = jw w (wo rs ss a) (wo rs ss b)
  cases w with
  | sum => exact Int.add_comm _ _
  | less => exact absurd rfl hw
  | least =>
    show (if wo rs ss a < wo rs ss b then wo rs ss a else wo rs ss b) = if wo rs ss b < wo rs ss a then wo rs ss b else wo rs ss a
    split <;> split <;> omega
  | most =>
    show (if wo rs ss a > wo rs ss b then wo rs ss a else wo rs ss b) = if wo rs ss b > wo rs ss a then wo rs ss b else wo rs ss a
    split <;> split <;> omega
theorem sm_ends {a b : Ex} : Sm (.two .sum a b) (.two .sum (.two .least a b) (.two .most a b)) := fun rs ss => by
  show (if wo rs ss b < wo rs ss a then wo rs ss b else wo rs ss a) + (if wo rs ss b > wo rs ss a then wo rs ss b else wo rs ss a) = wo rs ss a + wo rs ss b
  split <;> split <;> omega
theorem sm_less1 {a b : Ex} : Sm (.two .less a b) (.two .sum a (.times (-1) b)) := fun rs ss => by
  show wo rs ss a + -1 * wo rs ss b = wo rs ss a - wo rs ss b
  omega
theorem sm_less2 {a b : Ex} : Sm (.two .less a b) (.times (-1) (.two .less b a)) := fun rs ss => by
  show -1 * (wo rs ss b - wo rs ss a) = wo rs ss a - wo rs ss b
  omega
theorem sm_least {a b : Ex} : Sm (.two .least a b) (.times (-1) (.two .most (.times (-1) a) (.times (-1) b))) := fun rs ss => by
  show -1 * (if -1 * wo rs ss b > -1 * wo rs ss a then -1 * wo rs ss b else -1 * wo rs ss a) = if wo rs ss b < wo rs ss a then wo rs ss b else wo rs ss a
  split <;> split <;> omega
theorem sm_most {a b : Ex} : Sm (.two .most a b) (.two .sum a (.two .most (.fig 0) (.two .less b a))) := fun rs ss => by
  show wo rs ss a + (if wo rs ss b - wo rs ss a > 0 * ss.sum then wo rs ss b - wo rs ss a else 0 * ss.sum) = if wo rs ss b > wo rs ss a then wo rs ss b else wo rs ss a
  rw [Int.zero_mul]
  split <;> split <;> omega
theorem sm_times {f : Int} {a : Ex} : Sm (.times f a) (.two .sum (.times (f - 1) a) a) := fun rs ss => by
  show (f - 1) * wo rs ss a + wo rs ss a = f * wo rs ss a
  rw [Int.sub_mul, Int.one_mul]
  omega
theorem sm_times2 {f : Int} {w : W4} {a b : Ex} (hw : w = .sum ∨ w = .less) : Sm (.times f (.two w a b)) (.two w (.times f a) (.times f b)) := fun rs ss => by
  rcases hw with rfl | rfl
  · show f * wo rs ss a + f * wo rs ss b = f * (wo rs ss a + wo rs ss b)
    rw [Int.mul_add]
  · show f * wo rs ss a - f * wo rs ss b = f * (wo rs ss a - wo rs ss b)
    rw [Int.mul_sub]
theorem sm_by2 {i : Nat} {w : W4} {a b : Ex} (hw : w = .sum ∨ w = .less) : Sm (.by i (.two w a b)) (.two w (.by i a) (.by i b)) := fun rs ss => by
  rcases hw with rfl | rfl
  · show rs.getD i 0 * wo rs ss a + rs.getD i 0 * wo rs ss b = rs.getD i 0 * (wo rs ss a + wo rs ss b)
    rw [Int.mul_add]
  · show rs.getD i 0 * wo rs ss a - rs.getD i 0 * wo rs ss b = rs.getD i 0 * (wo rs ss a - wo rs ss b)
    rw [Int.mul_sub]
theorem sm_when1 {i : Nat} {c : Int} {a b l : Ex} : Sm (.when i c a b) (.when i c (.when i c a l) b) := fun rs ss => by
  show (if rs.getD i 0 < c then (if rs.getD i 0 < c then wo rs ss a else wo rs ss l) else wo rs ss b) = if rs.getD i 0 < c then wo rs ss a else wo rs ss b
  split <;> rfl
theorem sm_when2 {i : Nat} {c : Int} {a b l : Ex} : Sm (.when i c a b) (.when i c a (.when i c l b)) := fun rs ss => by
  show (if rs.getD i 0 < c then wo rs ss a else (if rs.getD i 0 < c then wo rs ss l else wo rs ss b)) = if rs.getD i 0 < c then wo rs ss a else wo rs ss b
  split <;> rfl
theorem sm_whr1 {j : Nat} {c : Int} {a b l : Ex} : Sm (.whr j c a b) (.whr j c (.whr j c a l) b) := fun rs ss => by
  show (if 1000 * ss.getD j 0 < c * ss.sum then (if 1000 * ss.getD j 0 < c * ss.sum then wo rs ss a else wo rs ss l) else wo rs ss b) = if 1000 * ss.getD j 0 < c * ss.sum then wo rs ss a else wo rs ss b
  split <;> rfl
theorem sm_whr2 {j : Nat} {c : Int} {a b l : Ex} : Sm (.whr j c a b) (.whr j c a (.whr j c l b)) := fun rs ss => by
  show (if 1000 * ss.getD j 0 < c * ss.sum then wo rs ss a else (if 1000 * ss.getD j 0 < c * ss.sum then wo rs ss l else wo rs ss b)) = if 1000 * ss.getD j 0 < c * ss.sum then wo rs ss a else wo rs ss b
  split <;> rfl
theorem sm_zero {e : Ex} : Sm e (.two .sum (.fig 0) e) := fun rs ss => by
  show 0 * ss.sum + wo rs ss e = wo rs ss e
  rw [Int.zero_mul, Int.zero_add]
theorem sm_one {e : Ex} : Sm e (.times 1 e) := fun rs ss => by
  show 1 * wo rs ss e = wo rs ss e
  exact Int.one_mul _
theorem sm_back {e l : Ex} : Sm e (.two .less (.two .sum e l) l) := fun rs ss => by
  show wo rs ss e + wo rs ss l - wo rs ss l = wo rs ss e
  omega
theorem sm_abs1 {e l : Ex} : Sm e (.two .most e (.two .least e l)) := fun rs ss => by
  show (if (if wo rs ss l < wo rs ss e then wo rs ss l else wo rs ss e) > wo rs ss e then (if wo rs ss l < wo rs ss e then wo rs ss l else wo rs ss e) else wo rs ss e) = wo rs ss e
  split <;> split at * <;> omega
theorem sm_abs2 {e l : Ex} : Sm e (.two .least (.two .most l e) e) := fun rs ss => by
  show (if wo rs ss e < (if wo rs ss e > wo rs ss l then wo rs ss e else wo rs ss l) then wo rs ss e else (if wo rs ss e > wo rs ss l then wo rs ss e else wo rs ss l)) = wo rs ss e
  split <;> split at * <;> omega
theorem sm_neg {e : Ex} : Sm e (.two .less (.fig 0) (.times (-1) e)) := fun rs ss => by
  show 0 * ss.sum - -1 * wo rs ss e = wo rs ss e
  rw [Int.zero_mul]
  omega
theorem sm_whens {i : Nat} {c : Int} {e : Ex} : Sm e (.when i c e e) := fun rs ss => by
  show (if rs.getD i 0 < c then wo rs ss e else wo rs ss e) = wo rs ss e
  split <;> rfl
theorem sm_whrs {j : Nat} {c : Int} {e : Ex} : Sm e (.whr j c e e) := fun rs ss => by
  show (if 1000 * ss.getD j 0 < c * ss.sum then wo rs ss e else wo rs ss e) = wo rs ss e
  split <;> rfl
/-! ### a kid replaced -/
theorem sm_two {w : W4} {a b a' b' : Ex} (ha : Sm a a') (hb : Sm b b') : Sm (.two w a b) (.two w a' b') := fun rs ss => by
  show jw w _ _ = jw w _ _
  rw [ha rs ss, hb rs ss]
theorem sm_timesK {f : Int} {a a' : Ex} (ha : Sm a a') : Sm (.times f a) (.times f a') := fun rs ss => by
  show f * _ = f * _
  rw [ha rs ss]
theorem sm_byK {i : Nat} {a a' : Ex} (ha : Sm a a') : Sm (.by i a) (.by i a') := fun rs ss => by
  show rs.getD i 0 * _ = rs.getD i 0 * _
  rw [ha rs ss]
theorem sm_whenK {i : Nat} {c : Int} {a b a' b' : Ex} (ha : Sm a a') (hb : Sm b b') : Sm (.when i c a b) (.when i c a' b') := fun rs ss => by
  show (if rs.getD i 0 < c then _ else _) = if rs.getD i 0 < c then _ else _
  rw [ha rs ss, hb rs ss]
theorem sm_whrK {j : Nat} {c : Int} {a b a' b' : Ex} (ha : Sm a a') (hb : Sm b b') : Sm (.whr j c a b) (.whr j c a' b') := fun rs ss => by
  show (if 1000 * ss.getD j 0 < c * ss.sum then _ else _) = if 1000 * ss.getD j 0 < c * ss.sum then _ else _
  rw [ha rs ss, hb rs ss]
/-- fit to stand for e: allowed, not much deeper, of the same worth -/
structure Fit (many : Nat) (e e' : Ex) : Prop where
  ok : ExOk many e'
  dp : e'.dep ≤ e.dep + 2
  sm : Sm e e'
def spByWord (K : PySem.W.Frag) : Sp := fun vs H Q _ => ∃ (v lv : V) (e lf : Ex) (many : Nat), vs = [v, lv] ∧ ExAt K H e v ∧ ExAt K H lf lv ∧ ExOk many e ∧ ExOk many lf ∧ lf.dep ≤ 1 ∧
  ∀ H' l us es, Same H H' → H l = none → H' l = some (.lst us) → RowsAt K H' us es → es.length ≤ 20 → (∀ e' ∈ es, Fit many e e') → Q (.ref l) H'
def spOther (K : PySem.W.Frag) : Sp := fun vs H Q _ => ∃ (a : Addr) (v : V) (e : Ex) (many n : Nat), vs = [.ref a, v, .int (many : Int)] ∧ 2 ≤ many ∧ many ≤ 3 ∧ HandAt H a n ∧ n ≤ 999990000 ∧ ExAt K H e v ∧ ExOk many e ∧
  ∀ H' u e', But a H H' → HandAt H' a (n + 20) → ExAt K H' e' u → Fit many e e' → Q u H'
end NG

namespace NG
open PySem PySem.Spec PyProof.Rows L2
def topS (i : Nat) : Stmt := PySem.Challenge.pw_nonegrowsrich_k08_whole_rewritten_by_law.main.body.getD i (.Pass ⟨0, 0, 0, 0⟩)
abbrev s_led_part : Stmt := topS 1
abbrev N_led_part : List Str := ["expression", "registers", "word", "place", "figure", "first", "second"]
theorem sc_led_part : FnScope ["expression", "registers", "word", "place", "figure", "first", "second"] ["expression", "registers"] (defScope s_led_part) := ⟨rfl, rfl, rfl, by decide +kernel, rfl, by decide +kernel, by decide +kernel⟩
abbrev s_side_part : Stmt := topS 2
abbrev N_side_part : List Str := ["expression", "shares", "word", "sign", "line", "first", "second"]
theorem sc_side_part : FnScope ["expression", "shares", "word", "sign", "line", "first", "second"] ["expression", "shares"] (defScope s_side_part) := ⟨rfl, rfl, rfl, by decide +kernel, rfl, by decide +kernel, by decide +kernel⟩
abbrev s_join_worths : Stmt := topS 3
abbrev N_join_worths : List Str := ["word", "first", "second"]
theorem sc_join_worths : FnScope ["word", "first", "second"] ["word", "first", "second"] (defScope s_join_worths) := ⟨rfl, rfl, rfl, by decide +kernel, rfl, by decide +kernel, by decide +kernel⟩
abbrev s_worth : Stmt := topS 4
abbrev N_worth : List Str := ["expression", "registers", "shares", "word", "first", "second"]
theorem sc_worth : FnScope ["expression", "registers", "shares", "word", "first", "second"] ["expression", "registers", "shares"] (defScope s_worth) := ⟨rfl, rfl, rfl, by decide +kernel, rfl, by decide +kernel, by decide +kernel⟩
abbrev s_L_hand : Stmt := topS 6
abbrev N_L_hand : List Str := ["_law_script", "_law_k", "_law_cell", "_law_great"]
theorem sc_L_hand : FnScope ["_law_script", "_law_k", "_law_cell", "_law_great"] ["_law_script", "_law_k"] (defScope s_L_hand) := ⟨rfl, rfl, rfl, by decide +kernel, rfl, by decide +kernel, by decide +kernel⟩
abbrev s_L_take : Stmt := topS 7
abbrev N_L_take : List Str := ["_law_hand_here", "_law_many", "_law_digit", "_law_primes", "_law_prime", "_law_drawn"]
theorem sc_L_take : FnScope ["_law_hand_here", "_law_many", "_law_digit", "_law_primes", "_law_prime", "_law_drawn"] ["_law_hand_here", "_law_many"] (defScope s_L_take) := ⟨rfl, rfl, rfl, by decide +kernel, rfl, by decide +kernel, by decide +kernel⟩
abbrev s_L_of : Stmt := topS 8
abbrev N_L_of : List Str := ["_law_hand_here", "_law_some"]
theorem sc_L_of : FnScope ["_law_hand_here", "_law_some"] ["_law_hand_here", "_law_some"] (defScope s_L_of) := ⟨rfl, rfl, rfl, by decide +kernel, rfl, by decide +kernel, by decide +kernel⟩
abbrev s_L_figure : Stmt := topS 9
abbrev N_L_figure : List Str := ["_law_hand_here", "_law_some"]
theorem sc_L_figure : FnScope ["_law_hand_here", "_law_some"] ["_law_hand_here"] (defScope s_L_figure) := ⟨rfl, rfl, rfl, by decide +kernel, rfl, by decide +kernel, by decide +kernel⟩
abbrev s_L_leaf : Stmt := topS 10
abbrev N_L_leaf : List Str := ["_law_hand_here", "_law_many", "_law_sort"]
theorem sc_L_leaf : FnScope ["_law_hand_here", "_law_many", "_law_sort"] ["_law_hand_here", "_law_many"] (defScope s_L_leaf) := ⟨rfl, rfl, rfl, by decide +kernel, rfl, by decide +kernel, by decide +kernel⟩
abbrev s_L_expression : Stmt := topS 11
abbrev N_L_expression : List Str := ["_law_hand_here", "_law_many", "_law_level", "_law_jumps", "_law_words", "_law_word", "_law_one", "_law_other_here", "_law_figure_here"]
theorem sc_L_expression : FnScope ["_law_hand_here", "_law_many", "_law_level", "_law_jumps", "_law_words", "_law_word", "_law_one", "_law_other_here", "_law_figure_here"] ["_law_hand_here", "_law_many", "_law_level", "_law_jumps"] (defScope s_L_expression) := ⟨rfl, rfl, rfl, by decide +kernel, rfl, by decide +kernel, by decide +kernel⟩
abbrev s_L_lowest : Stmt := topS 12
abbrev N_L_lowest : List Str := ["_law_row", "_law_by", "_law_number"]
theorem sc_L_lowest : FnScope ["_law_row", "_law_by", "_law_number"] ["_law_row"] (defScope s_L_lowest) := ⟨rfl, rfl, rfl, by decide +kernel, rfl, by decide +kernel, by decide +kernel⟩
abbrev s_L_shares : Stmt := topS 13
abbrev N_L_shares : List Str := ["_law_hand_here", "_law_many", "_law_row", "_law_sign", "_law_some"]
theorem sc_L_shares : FnScope ["_law_hand_here", "_law_many", "_law_row", "_law_sign", "_law_some"] ["_law_hand_here", "_law_many"] (defScope s_L_shares) := ⟨rfl, rfl, rfl, by decide +kernel, rfl, by decide +kernel, by decide +kernel⟩
abbrev s_L_registers : Stmt := topS 14
abbrev N_L_registers : List Str := ["_law_hand_here", "_law_turn"]
theorem sc_L_registers : FnScope ["_law_hand_here", "_law_turn"] ["_law_hand_here"] (defScope s_L_registers) := ⟨rfl, rfl, rfl, by decide +kernel, rfl, by decide +kernel, by decide +kernel⟩
abbrev s_L_parts : Stmt := topS 15
abbrev N_L_parts : List Str := ["_law_expression_here", "_law_part"]
theorem sc_L_parts : FnScope ["_law_expression_here", "_law_part"] ["_law_expression_here"] (defScope s_L_parts) := ⟨rfl, rfl, rfl, by decide +kernel, rfl, by decide +kernel, by decide +kernel⟩
abbrev s_L_size : Stmt := topS 16
abbrev N_L_size : List Str := ["_law_expression_here", "_law_part"]
theorem sc_L_size : FnScope ["_law_expression_here", "_law_part"] ["_law_expression_here"] (defScope s_L_size) := ⟨rfl, rfl, rfl, by decide +kernel, rfl, by decide +kernel, by decide +kernel⟩
abbrev s_L_deep : Stmt := topS 17
abbrev N_L_deep : List Str := ["_law_expression_here", "_law_part"]
theorem sc_L_deep : FnScope ["_law_expression_here", "_law_part"] ["_law_expression_here"] (defScope s_L_deep) := ⟨rfl, rfl, rfl, by decide +kernel, rfl, by decide +kernel, by decide +kernel⟩
abbrev s_L_by_word : Stmt := topS 18
abbrev N_L_by_word : List Str := ["_law_expression_here", "_law_leaf_here", "_law_word", "_law_found", "_law_one", "_law_other_here", "_law_at", "_law_figure_here"]
theorem sc_L_by_word : FnScope ["_law_expression_here", "_law_leaf_here", "_law_word", "_law_found", "_law_one", "_law_other_here", "_law_at", "_law_figure_here"] ["_law_expression_here", "_law_leaf_here"] (defScope s_L_by_word) := ⟨rfl, rfl, rfl, by decide +kernel, rfl, by decide +kernel, by decide +kernel⟩
abbrev s_L_other : Stmt := topS 19
abbrev N_L_other : List Str := ["_law_hand_here", "_law_expression_here", "_law_many", "_law_leaf_here", "_law_at", "_law_some"]
theorem sc_L_other : FnScope ["_law_hand_here", "_law_expression_here", "_law_many", "_law_leaf_here", "_law_at", "_law_some"] ["_law_hand_here", "_law_expression_here", "_law_many"] (defScope s_L_other) := ⟨rfl, rfl, rfl, by decide +kernel, rfl, by decide +kernel, by decide +kernel⟩
abbrev s_L_turned : Stmt := topS 20
abbrev N_L_turned : List Str := ["_law_hand_here", "_law_expression_here", "_law_many", "_law_spots", "_law_k", "_law_part", "_law_at", "_law_made"]
theorem sc_L_turned : FnScope ["_law_hand_here", "_law_expression_here", "_law_many", "_law_spots", "_law_k", "_law_part", "_law_at", "_law_made"] ["_law_hand_here", "_law_expression_here", "_law_many"] (defScope s_L_turned) := ⟨rfl, rfl, rfl, by decide +kernel, rfl, by decide +kernel, by decide +kernel⟩
abbrev s_L_right : Stmt := topS 21
abbrev N_L_right : List Str := ["_law_hand_here", "_law_many", "_law_some", "_law_turn", "_law_made", "_law_asked", "_law_both", "_law_shares_here", "_law_registers_here", "_law_worths"]
theorem sc_L_right : FnScope ["_law_hand_here", "_law_many", "_law_some", "_law_turn", "_law_made", "_law_asked", "_law_both", "_law_shares_here", "_law_registers_here", "_law_worths"] ["_law_hand_here", "_law_many"] (defScope s_L_right) := ⟨rfl, rfl, rfl, by decide +kernel, rfl, by decide +kernel, by decide +kernel⟩
abbrev s_law : Stmt := topS 22
abbrev N_law : List Str := ["_law_script", "_law_k"]
theorem sc_law : FnScope ["_law_script", "_law_k"] ["_law_script"] (defScope s_law) := ⟨rfl, rfl, rfl, by decide +kernel, rfl, by decide +kernel, by decide +kernel⟩

end NG

namespace NG
open PySem PySem.Spec PyProof.Rows L2
section
variable {P : Program} {w : World} {K : PySem.W.Frag} {mg : Str → Option Value} {base : Heap}
theorem primes_at {m : Int} (h : 0 ≤ m) : ∃ p : Int, atI ([.int 2147483647, .int 2147483629, .int 2147483587, .int 2147483579, .int 2147483563, .int 2147483549, .int 2147483543, .int 2147483497] : List V) (m % 8) = some (.int p) ∧ 1000 < p ∧ p < 2147483648 := by
  have h1 : m % 8 = 0 ∨ m % 8 = 1 ∨ m % 8 = 2 ∨ m % 8 = 3 ∨ m % 8 = 4 ∨ m % 8 = 5 ∨ m % 8 = 6 ∨ m % 8 = 7 := by omega
  rcases h1 with e | e | e | e | e | e | e | e <;> rw [e] <;> exact ⟨_, rfl, by decide, by decide⟩
theorem ok_take {f : Addr} {fd : FuncData} (F : Fun K "_law_take" "_law_take" s_L_take f fd) (gF : mg "_law_take" = some (.ref f)) (b : Binds K fd ["_law_hand_here", "_law_many"] []) : Cal P w K mg base 1 "_law_take" spTake := by
  refine ⟨f, fd, _, F.ok sc_L_take (fun vs H Q E h => ?_) (fun cdv A outer s H vs Q E hr h => ?_), gF, F.kp, b⟩
  · obtain ⟨a, m, n, rfl, _⟩ := h
    rfl
  · obtain ⟨a, many, n, rfl, hm, hm2, ⟨g, sd, m, e, hg, hs, h0, hn⟩, hN, q⟩ := h
    refine ⟨_, (pss_cons (ps_if (pt_cmpR op_gt (pe_ix ix_list (pv 0) pe_int (fun _ _ => rfl)) pe_int (nomark _)) (pss_cons (ps_set (i := 2) sc_L_take.nd rfl (.inl rfl) (pe_op op_mod (pe_ix ix_list (pv 0) pe_int (fun _ _ => rfl)) (pv 1))) (pss_cons (ps_asg (pe_op op_fdivW (pe_ix ix_list (pv 0) pe_int (fun _ _ => rfl)) (pv 1)) (pg_sub (pv 0) pe_int set_list)) (pss_one (ps_ret (pv 2))))) pss_nil) (pss_cons (ps_asg (pe_op op_add (pe_ix ix_list (pv 0) pe_int (fun _ _ => rfl)) pe_int) (pg_sub (pv 0) pe_int set_list)) (pss_cons (ps_set (i := 3) sc_L_take.nd rfl (.inl rfl) (pe_lst (pa_cons pe_int (pa_cons pe_int (pa_cons pe_int (pa_cons pe_int (pa_cons pe_int (pa_cons pe_int (pa_cons pe_int (pa_cons pe_int pa_nil)))))))))) (pss_cons (ps_set (i := 4) sc_L_take.nd rfl (.inl rfl) (pe_ix ix_list (pv 3) (pe_op op_mod (pe_ix ix_list (pv 0) pe_int (fun _ _ => rfl)) pe_int) (fun _ _ => rfl))) (pss_cons (ps_set (i := 5) sc_L_take.nd rfl (.inl rfl) (pe_op op_add (pe_op op_mod (pe_op op_mod (pe_op op_add (pe_ix ix_list (pv 0) pe_int (fun _ _ => rfl)) (pe_op op_mul (pe_op op_mul pe_int (pe_ix ix_list (pv 0) pe_int (fun _ _ => rfl))) (pe_ix ix_list (pv 0) pe_int (fun _ _ => rfl)))) (pe_op op_pow (pv 4) pe_int)) (pv 4)) pe_int)) (pss_one (ps_ret (pe_op op_mod (pe_op op_fdiv (pe_op op_mod (pe_op op_mul (pv 5) (pe_op op_add (pe_op op_mod (pv 5) pe_int) (pe_ix ix_list (pv 0) pe_int (fun _ _ => rfl)))) (pv 4)) pe_int) (pv 1))))))))), ?_⟩
    refine ⟨.ref a, rfl, a, _, 0, .int g, rfl, rfl, SqL.of e, rfl, g, 0, rfl, rfl, _, rfl, iteD (fun c => ?_) (fun c => ?_)⟩
    · refine ⟨.ref a, rfl, a, _, 0, .int g, rfl, rfl, SqL.of e, rfl, .int many, rfl, g, many, rfl, rfl, hm, ?_⟩
      refine ⟨.ref a, rfl, a, _, 0, .int g, rfl, rfl, SqL.of e, rfl, .int many, rfl, g, many, rfl, rfl, wide_div (b := 62) hm (by omega) (by decide) (by decide), ?_⟩
      refine ⟨.ref a, rfl, a, _, 0, 0, rfl, rfl, e, rfl, ?_⟩
      refine ⟨.int (g % many), rfl, q _ _ But.put ?_ (Int.emod_nonneg _ (by omega)) (Int.emod_lt_of_pos _ hm)⟩
      exact ⟨g / many, sd, m, upd_same, Int.ediv_nonneg hg (by omega), hs, h0, by omega⟩
    · refine ⟨.ref a, rfl, a, _, 2, .int m, rfl, rfl, SqL.of e, rfl, m, 1, rfl, rfl, ?_⟩
      refine ⟨.ref a, rfl, a, _, 2, 2, rfl, rfl, e, rfl, ?_⟩
      have e1 : (upd H a (.lst [.int g, .int sd, .int (m + 1)])) a = some (.lst [.int g, .int sd, .int (m + 1)]) := upd_same
      refine ⟨by decide, fun p np => ?_⟩
      have npa : p ≠ a := (ne_of_none e1 np).symm
      obtain ⟨pr, hat, hp1, hp2⟩ := primes_at (m := m + 1) (by omega)
      have e2 : (upd (upd H a (.lst [.int g, .int sd, .int (m + 1)])) p (.lst [.int 2147483647, .int 2147483629, .int 2147483587, .int 2147483579, .int 2147483563, .int 2147483549, .int 2147483543, .int 2147483497])) a = some (.lst [.int g, .int sd, .int (m + 1)]) := by rw [upd_ne npa.symm]; exact e1
      have e3 : (upd (upd H a (.lst [.int g, .int sd, .int (m + 1)])) p (.lst [.int 2147483647, .int 2147483629, .int 2147483587, .int 2147483579, .int 2147483563, .int 2147483549, .int 2147483543, .int 2147483497])) p = some (.lst [.int 2147483647, .int 2147483629, .int 2147483587, .int 2147483579, .int 2147483563, .int 2147483549, .int 2147483543, .int 2147483497]) := upd_same
      refine ⟨.ref p, rfl, .ref a, rfl, a, _, 2, .int (m + 1), rfl, rfl, SqL.of e2, rfl, m + 1, 8, rfl, rfl, (by show (0 : Int) < 8; decide), p, _, (m + 1) % 8, .int pr, rfl, rfl, SqL.of e3, hat, ?_⟩
      have hsq : (0 : Int) < pr ^ (2 : Int).toNat := by
        show 0 < pr ^ 2
        exact Int.pow_pos (by omega)
      refine ⟨.ref a, rfl, a, _, 1, .int sd, rfl, rfl, SqL.of e2, rfl, .ref a, rfl, a, _, 2, .int (m + 1), rfl, rfl, SqL.of e2, rfl, 69621, m + 1, rfl, rfl, .inl ⟨by decide, by decide⟩, .ref a, rfl, a, _, 2, .int (m + 1), rfl, rfl, SqL.of e2, rfl, _, _, rfl, rfl, .inr ⟨by omega, by omega⟩, _, _, rfl, rfl,
        .int pr, rfl, pr, 2, rfl, rfl, ⟨by decide, by decide, by omega⟩, _, _, rfl, rfl, hsq, .int pr, rfl, _, pr, rfl, rfl, (by show 0 < pr; omega), _, 1, rfl, rfl, ?_⟩
      generalize hz : (sd + 69621 * (m + 1) * (m + 1)) % pr ^ (2 : Int).toNat % pr = z
      have hz0 : 0 ≤ z := by rw [← hz]; exact Int.emod_nonneg _ (by omega)
      have hz1 : z < pr := by rw [← hz]; exact Int.emod_lt_of_pos _ (by omega)
      refine ⟨.int (z + 1), rfl, .int (z + 1), rfl, z + 1, 1009, rfl, rfl, (by show (0 : Int) < 1009; decide), .ref a, rfl, a, _, 2, .int (m + 1), rfl, rfl, SqL.of e2, rfl, _, _, rfl, rfl, z + 1, _, rfl, rfl, .inl ⟨by omega, by omega⟩, .int pr, rfl, _, pr, rfl, rfl, (by show 0 < pr; omega), _, 7, rfl, rfl, ⟨by decide, by decide⟩, .int many, rfl, _, many, rfl, rfl, hm, ?_⟩
      refine q _ _ ?_ ⟨g, sd, m + 1, e2, hg, hs, by omega, by omega⟩ (Int.emod_nonneg _ (by omega)) (Int.emod_lt_of_pos _ hm)
      exact But.put.trans (But.new np)
end
end NG

namespace NG
open PySem PySem.Spec PyProof.Rows L2
section
variable {P : Program} {w : World} {K : PySem.W.Frag} {mg : Str → Option Value} {base : Heap}
theorem ok_hand {f : Addr} {fd : FuncData} (F : Fun K "_law_hand" "_law_hand" s_L_hand f fd) (gF : mg "_law_hand" = some (.ref f)) (b : Binds K fd ["_law_script", "_law_k"] []) (B : Bl mg) : Cal P w K mg base 1 "_law_hand" (spHand K) := by
  refine ⟨f, fd, _, F.ok sc_L_hand (fun vs H Q E h => ?_) (fun cdv A outer s H vs Q E hr h => ?_), gF, F.kp, b⟩
  · obtain ⟨a, m, n, rfl, _⟩ := h
    rfl
  · obtain ⟨a, k, ns, rfl, hk0, hk1, hS, q⟩ := h
    refine ⟨_, (pss_cons (ps_set (i := 2) sc_L_hand.nd rfl (.inl rfl) (pe_cut (pe_ifExp (pt_cmpR op_lt (pv 1) (pe_callB call_len_seq (by rfl) B.len PySem.boot_len (pa_cons (pv 0) pa_nil)) (nomark _)) (pe_ix ix_list (pv 0) (pv 1) (fun _ _ => rfl)) pe_int))) (pss_cons (ps_set (i := 3) sc_L_hand.nd rfl (.inl rfl) (pe_op op_mul (pe_op op_mod (pe_callB call_abs (by rfl) B.abs (by decide +kernel) (pa_cons (pv 2) pa_nil)) (pe_op op_mulW (pe_op op_pow pe_int pe_int) (pe_op op_pow pe_int pe_int))) (pe_callTy call_int1 (by rfl) B.int (by decide +kernel) (pa_cons (pe_cmpR op_ge (pe_callB call_abs (by rfl) B.abs (by decide +kernel) (pa_cons (pv 2) pa_nil)) (pe_op op_pow pe_int pe_int) (nomark _)) pa_nil)))) (pss_one (ps_ret (pe_lst (pa_cons (pv 3) (pa_cons (pe_op op_add (pe_op op_add (pe_op op_mod (pv 2) pe_int) (pe_op op_mul pe_int (pv 1))) pe_int) (pa_cons pe_int pa_nil)))))))), ?_⟩
    refine ⟨fun v H' => H' = H ∧ ∃ c : Int, v = .int c, ?_, fun v H' hv => ?_⟩
    · refine ⟨.int k, rfl, .ref a, rfl, a, _, rfl, .inl hS, k, _, rfl, rfl, _, rfl, iteD (fun c => ?_) (fun c => ?_)⟩
      · exact ⟨.ref a, rfl, .int k, rfl, a, _, k, _, rfl, rfl, hS, at_int hk0 (by rw [List.length_map] at c; exact c), rfl, _, rfl⟩
      · exact ⟨rfl, 0, rfl⟩
    · obtain ⟨rfl, c, rfl⟩ := hv
      refine ⟨.int c, rfl, c, rfl, 10, 60, rfl, rfl, ⟨by decide, by decide, by decide⟩, 10, 60, rfl, rfl, ⟨by decide, by decide, by decide⟩, _, _, rfl, rfl, wide_mul (a := 300) (b := 300) (by decide) (by decide) (by decide) (by decide) (by decide), _, _, rfl, rfl, (by show (0 : Int) < 10 ^ 60 * 10 ^ 60; decide), ?_⟩
      refine ⟨.int c, rfl, c, rfl, 10, 18, rfl, rfl, ⟨by decide, by decide, by decide⟩, _, _, rfl, rfl, .inr ⟨_, rfl, ?_⟩⟩
      have h01 : ∀ z : Bool, (0 : Int) ≤ (if z = true then 1 else 0) ∧ (if z = true then (1 : Int) else 0) ≤ 1 := by
        intro z
        cases z <;> decide
      refine ⟨_, _, rfl, rfl, .inr ⟨by have := h01 (decide ((10 : Int) ^ (18 : Int).toNat ≤ if c < 0 then -c else c)); omega, by have := h01 (decide ((10 : Int) ^ (18 : Int).toNat ≤ if c < 0 then -c else c)); omega⟩, ?_⟩
      refine ⟨_, rfl, .int c, rfl, c, 2305843009213693951, rfl, rfl, (by show (0 : Int) < 2305843009213693951; decide), .int k, rfl, 104729, k, rfl, rfl, .inl ⟨by decide, by decide⟩, _, _, rfl, rfl, _, 7, rfl, rfl, (by show 3 ≤ sizeLine; decide), fun p np => ?_⟩
      refine q p _ _ np (Int.mul_nonneg (Int.emod_nonneg _ (by show (10 : Int) ^ 60 * 10 ^ 60 ≠ 0; decide)) (h01 _).1) ?_
      have : 0 ≤ c % 2305843009213693951 := Int.emod_nonneg _ (by decide)
      omega
theorem ok_of {f : Addr} {fd : FuncData} (F : Fun K "_law_of" "_law_of" s_L_of f fd) (gF : mg "_law_of" = some (.ref f)) (b : Binds K fd ["_law_hand_here", "_law_some"] []) (B : Bl mg) (c_L_take : Cal P w K mg base 1 "_law_take" spTake) : Cal P w K mg base 2 "_law_of" (spOf K) := by
  refine ⟨f, fd, _, F.ok sc_L_of (fun vs H Q E h => ?_) (fun cdv A outer s H vs Q E hr h => ?_), gF, F.kp, b⟩
  · obtain ⟨a, m, n, _, rfl, _⟩ := h
    rfl
  · obtain ⟨a, l, xs, n, rfl, hal, hl, h0, h1, hh, hn, q⟩ := h
    refine ⟨_, (pss_one (ps_ret (pe_ix ix_list (pv 1) (pe_c c_L_take hr (by omega) (by rfl) (pa_cons (pv 0) (pa_cons (pe_callB call_len_seq (by rfl) B.len PySem.boot_len (pa_cons (pv 1) pa_nil)) pa_nil))) (fun _ _ => rfl)))), ?_⟩
    refine ⟨.ref l, rfl, .ref a, rfl, .ref l, rfl, l, _, rfl, .inl (SqL.of hl), ?_⟩
    refine ⟨a, _, n, rfl, by omega, by omega, hh, hn, fun H' r bt hh' r0 r1 => ?_⟩
    have hl' : H' l = some (.lst xs) := bt _ _ (Ne.symm hal) hl
    obtain ⟨v, hv, hm⟩ := at_mem (xs := xs) r0 r1
    exact ⟨l, _, r, v, rfl, rfl, SqL.of hl', hv, q _ _ bt hh' hm⟩
theorem ok_figure {f : Addr} {fd : FuncData} (F : Fun K "_law_figure" "_law_figure" s_L_figure f fd) (gF : mg "_law_figure" = some (.ref f)) (b : Binds K fd ["_law_hand_here"] []) (B : Bl mg) (c_L_take : Cal P w K mg base 1 "_law_take" spTake) (c_L_of : Cal P w K mg base 2 "_law_of" (spOf K)) : Cal P w K mg base 3 "_law_figure" spFigure := by
  refine ⟨f, fd, _, F.ok sc_L_figure (fun vs H Q E h => ?_) (fun cdv A outer s H vs Q E hr h => ?_), gF, F.kp, b⟩
  · obtain ⟨a, m, rfl, _⟩ := h
    rfl
  · obtain ⟨a, n, rfl, hh, hn, q⟩ := h
    refine ⟨_, (pss_cons (ps_set (i := 1) sc_L_figure.nd rfl (.inl rfl) (pe_lst (pa_cons pe_int (pa_cons pe_int (pa_cons (pe_un un_neg pe_int) (pa_cons pe_int (pa_cons pe_int (pa_cons pe_int (pa_cons pe_int (pa_cons (pe_un un_neg pe_int) (pa_cons pe_int (pa_cons (pe_un un_neg pe_int) pa_nil)))))))))))) (pss_one (ps_ret (pe_c c_L_of hr (by omega) (by rfl) (pa_cons (pv 0) (pa_cons (pe_op op_cat (pv 1) (pe_lst (pa_cons (pe_op op_sub (pe_c c_L_take hr (by omega) (by rfl) (pa_cons (pv 0) (pa_cons pe_int pa_nil))) pe_int) (pa_cons (pe_op op_sub (pe_c c_L_take hr (by omega) (by rfl) (pa_cons (pv 0) (pa_cons pe_int pa_nil))) pe_int) pa_nil)))) pa_nil)))))), ?_⟩
    refine ⟨_, rfl, _, rfl, _, rfl, (by show 10 ≤ sizeLine; decide), fun l nl => ?_⟩
    have hla := hh.ne nl
    have hl : (upd H l (.lst [.int 0, .int 1, .int (-1), .int 50, .int 100, .int 250, .int 500, .int (-500), .int 1000, .int (-1000)])) l = _ := upd_same
    refine ⟨.ref a, rfl, .ref l, rfl, .ref a, rfl, a, 2001, n, rfl, by decide, by decide, hh.new nl, by omega, fun H1 r1 b1 hh1 r10 r11 => ⟨_, _, rfl, rfl, ?_⟩⟩
    refine ⟨.ref a, rfl, a, 201, n + 1, rfl, by decide, by decide, hh1, by omega, fun H2 r2 b2 hh2 r20 r21 => ⟨_, _, rfl, rfl, ?_⟩⟩
    refine ⟨(by show 2 ≤ sizeLine; decide), fun l2 nl2 => ?_⟩
    have hl2a := hh2.ne nl2
    have e1 : H2 l = some (.lst [.int 0, .int 1, .int (-1), .int 50, .int 100, .int 250, .int 500, .int (-500), .int 1000, .int (-1000)]) := b2 _ _ hla (b1 _ _ hla hl)
    refine ⟨l, l2, _, _, rfl, rfl, by rw [upd_ne (ne_of_none e1 nl2)]; exact e1, upd_same, (by show 12 ≤ sizeLine; decide), fun l3 nl3 => ?_⟩
    have hh3 := (hh2.new (o := .lst [.int (r1 - 1000), .int (r2 - 100)]) nl2)
    refine ⟨a, l3, _, n + 2, rfl, (hh3.ne nl3).symm, upd_same, (by show 0 < 12; decide), (by show 12 ≤ 1000; decide), hh3.new nl3, by omega, fun H4 v b4 hh4 hv => ?_⟩
    have bb : But a H H4 := (((((But.new nl).trans b1).trans b2).trans (But.new nl2)).trans (But.new nl3)).trans b4
    have key : ∃ c : Int, v = .int c ∧ -1000 ≤ c ∧ c ≤ 1000 := by
      simp only [List.cons_append, List.nil_append, List.mem_cons, List.not_mem_nil, or_false] at hv
      rcases hv with rfl | rfl | rfl | rfl | rfl | rfl | rfl | rfl | rfl | rfl | rfl | rfl
      all_goals exact ⟨_, rfl, by omega, by omega⟩
    obtain ⟨c, rfl, c0, c1⟩ := key
    exact q _ _ bb hh4 c0 c1
end
end NG

namespace NG
open PySem PySem.Spec PyProof.Rows L2
section
variable {P : Program} {w : World} {K : PySem.W.Frag} {mg : Str → Option Value} {base : Heap}
theorem ok_led {f : Addr} {fd : FuncData} (F : Fun K "led_part" "led_part" s_led_part f fd) (gF : mg "led_part" = some (.ref f)) (b : Binds K fd ["expression", "registers"] []) (B : Bl mg) : Cal P w K mg base 1 "led_part" (spLed K) := by
  refine ⟨f, fd, _, F.ok sc_led_part (fun vs H Q E h => ?_) (fun cdv A outer s H vs Q E hr h => ?_), gF, F.kp, b⟩
  · obtain ⟨_, _, _, _, _, _, _, rfl, _⟩ := h
    rfl
  · obtain ⟨p, _, x, y, i, c, rs, rfl, hp, hi, ⟨r, rfl, hr', hl, hb⟩, q⟩ := h
    refine ⟨_, (pss_cons (ps_asg (pv 0) (pg_tup rfl (pgs_cons (pg_name (i := 2) sc_led_part.nd rfl (.inl rfl)) (pgs_cons (pg_name (i := 3) sc_led_part.nd rfl (.inl rfl)) (pgs_cons (pg_name (i := 4) sc_led_part.nd rfl (.inl rfl)) (pgs_cons (pg_name (i := 5) sc_led_part.nd rfl (.inl rfl)) (pgs_cons (pg_name (i := 6) sc_led_part.nd rfl (.inl rfl)) pgs_nil))))))) (pss_one (ps_ret (pe_ifExp (pt_cmpR op_lt (pe_ix ix_tup (pv 1) (pv 3) (fun _ _ => rfl)) (pv 4) (nomark _)) (pv 5) (pv 6))))), ?_⟩
    refine ⟨.ref p, rfl, p, _, rfl, hp, rfl, _, _, rfl, _, _, rfl, _, _, rfl, _, _, rfl, _, _, rfl, rfl, ?_⟩
    refine ⟨.ref r, rfl, .int (i : Int), rfl, r, _, _, _, rfl, rfl, hr', at_nth (by omega), .int c, rfl, _, _, rfl, rfl, _, rfl, iteD (fun h => ?_) (fun h => ?_)⟩
    · rw [if_pos h] at q
      exact ⟨x, rfl, q⟩
    · rw [if_neg h] at q
      exact ⟨y, rfl, q⟩
theorem ok_side {f : Addr} {fd : FuncData} (F : Fun K "side_part" "side_part" s_side_part f fd) (gF : mg "side_part" = some (.ref f)) (b : Binds K fd ["expression", "shares"] []) (B : Bl mg) : Cal P w K mg base 1 "side_part" (spSide K) := by
  refine ⟨f, fd, _, F.ok sc_side_part (fun vs H Q E h => ?_) (fun cdv A outer s H vs Q E hr h => ?_), gF, F.kp, b⟩
  · obtain ⟨_, _, _, _, _, _, _, _, rfl, _⟩ := h
    rfl
  · obtain ⟨p, _, x, y, many, j, c, ss, rfl, hp, hj, hc, ⟨r, rfl, hr', hl, hb, h0, h1⟩, q⟩ := h
    refine ⟨_, (pss_cons (ps_asg (pv 0) (pg_tup rfl (pgs_cons (pg_name (i := 2) sc_side_part.nd rfl (.inl rfl)) (pgs_cons (pg_name (i := 3) sc_side_part.nd rfl (.inl rfl)) (pgs_cons (pg_name (i := 4) sc_side_part.nd rfl (.inl rfl)) (pgs_cons (pg_name (i := 5) sc_side_part.nd rfl (.inl rfl)) (pgs_cons (pg_name (i := 6) sc_side_part.nd rfl (.inl rfl)) pgs_nil))))))) (pss_one (ps_ret (pe_ifExp (pt_cmpR op_lt (pe_op op_mul pe_int (pe_ix ix_tup (pv 1) (pv 3) (fun _ _ => rfl))) (pe_op op_mul (pv 4) (pe_callB (cr_sumT rfl) (by rfl) B.sum (by decide +kernel) (pa_cons (pv 1) pa_nil))) (nomark _)) (pv 5) (pv 6))))), ?_⟩
    refine ⟨.ref p, rfl, p, _, rfl, hp, rfl, _, _, rfl, _, _, rfl, _, _, rfl, _, _, rfl, _, _, rfl, rfl, ?_⟩
    refine ⟨.ref r, rfl, .int (j : Int), rfl, r, _, _, _, rfl, rfl, hr', at_nth (by omega), 1000, _, rfl, rfl, .inl ⟨by decide, by decide⟩, .int c, rfl, .ref r, rfl, r, ss, rfl, hr', c, _, rfl, rfl, .inl ⟨by omega, by omega⟩, _, _, rfl, rfl, _, rfl, iteD (fun h => ?_) (fun h => ?_)⟩
    · rw [if_pos h] at q
      exact ⟨x, rfl, q⟩
    · rw [if_neg h] at q
      exact ⟨y, rfl, q⟩
theorem ok_joinW {f : Addr} {fd : FuncData} (F : Fun K "join_worths" "join_worths" s_join_worths f fd) (gF : mg "join_worths" = some (.ref f)) (b : Binds K fd ["word", "first", "second"] []) (B : Bl mg) : Cal P w K mg base 1 "join_worths" spJoinW := by
  refine ⟨f, fd, _, F.ok sc_join_worths (fun vs H Q E h => ?_) (fun cdv A outer s H vs Q E hr h => ?_), gF, F.kp, b⟩
  · obtain ⟨_, _, _, rfl, _⟩ := h
    rfl
  · obtain ⟨o, x, y, rfl, q⟩ := h
    refine ⟨_, (pss_cons (ps_if (pt_cmpR op_eq (pv 0) pe_str (nomark _)) (pss_one (ps_ret (pe_op op_add (pv 1) (pv 2)))) pss_nil) (pss_cons (ps_if (pt_cmpR op_eq (pv 0) pe_str (nomark _)) (pss_one (ps_ret (pe_op op_sub (pv 1) (pv 2)))) pss_nil) (pss_one (ps_ret (pe_ifExp (pt_cmpR op_eq (pv 0) pe_str (nomark _)) (pe_callB (call_min2 rfl) (by rfl) B.min (by decide +kernel) (pa_cons (pv 1) (pa_cons (pv 2) pa_nil))) (pe_callB (call_max2 rfl) (by rfl) B.max (by decide +kernel) (pa_cons (pv 1) (pa_cons (pv 2) pa_nil)))))))), ?_⟩
    refine ⟨_, rfl, rfl, _, rfl, ?_⟩
    cases o with
    | sum =>
      refine iteTT (by decide) ?_
      exact ⟨_, rfl, _, rfl, _, _, rfl, rfl, q⟩
    | less =>
      refine iteFF (by decide) ?_
      refine ⟨_, rfl, rfl, _, rfl, iteTT (by decide) ?_⟩
      exact ⟨_, rfl, _, rfl, _, _, rfl, rfl, q⟩
    | least =>
      refine iteFF (by decide) ?_
      refine ⟨_, rfl, rfl, _, rfl, iteFF (by decide) ?_⟩
      refine ⟨_, rfl, rfl, _, rfl, iteTT (by decide) ?_⟩
      exact ⟨_, rfl, _, rfl, _, _, rfl, q⟩
    | most =>
      refine iteFF (by decide) ?_
      refine ⟨_, rfl, rfl, _, rfl, iteFF (by decide) ?_⟩
      refine ⟨_, rfl, rfl, _, rfl, iteFF (by decide) ?_⟩
      exact ⟨_, rfl, _, rfl, _, _, rfl, q⟩
theorem wn_ne {o : W4} {s : Str} (h : s = "fig" ∨ s = "reg" ∨ s = "share" ∨ s = "times" ∨ s = "by" ∨ s = "when" ∨ s = "where") : decide (V.str (wn o) = V.str s) = false := by
  rcases h with rfl | rfl | rfl | rfl | rfl | rfl | rfl <;> cases o <;> decide
theorem fn_worth {f : Addr} {fd : FuncData} (F : Fun K "worth" "worth" s_worth f fd) (gF : mg "worth" = some (.ref f)) (b : Binds K fd ["expression", "registers", "shares"] []) (B : Bl mg) (c_led_part : Cal P w K mg base 1 "led_part" (spLed K)) (c_side_part : Cal P w K mg base 1 "side_part" (spSide K)) (c_join_worths : Cal P w K mg base 1 "join_worths" spJoinW) : ∀ n, FnOk P w K mg base CX0 (n + 2) f fd ["expression", "registers", "shares"] (spWorth K n) := by
  intro n
  induction n with
  | zero =>
    refine fn_never fun vs H Q E h => ?_
    obtain ⟨_, _, _, e, _, _, _, _, _, _, hd, _⟩ := h
    cases e <;> (unfold Ex.dep at hd; omega)
  | succ n ih =>
  have c_worth : Cal P w K mg base (n + 2) "worth" (spWorth K n) := ⟨f, fd, _, ih, gF, F.kp, b⟩
  refine F.ok sc_worth (fun vs H Q E h => ?_) (fun cdv A outer s H vs Q E hr h => ?_)
  · obtain ⟨_, _, _, _, _, _, _, rfl, _⟩ := h
    rfl
  · obtain ⟨v, _, _, e, many, rs, ss, rfl, he, ho, hd, hR, hS, q⟩ := h
    refine ⟨_, (pss_cons (ps_set (i := 3) sc_worth.nd rfl (.inl rfl) (pe_ix ix_tup (pv 0) pe_int (fun _ _ => rfl))) (pss_cons (ps_if (pt_cmpR op_eq (pv 3) pe_str (nomark _)) (pss_one (ps_ret (pe_op op_mul (pe_ix ix_tup (pv 0) pe_int (fun _ _ => rfl)) (pe_callB (cr_sumT rfl) (by rfl) B.sum (by decide +kernel) (pa_cons (pv 2) pa_nil))))) pss_nil) (pss_cons (ps_if (pt_cmpR op_eq (pv 3) pe_str (nomark _)) (pss_one (ps_ret (pe_op op_mul (pe_ix ix_tup (pv 1) (pe_ix ix_tup (pv 0) pe_int (fun _ _ => rfl)) (fun _ _ => rfl)) (pe_callB (cr_sumT rfl) (by rfl) B.sum (by decide +kernel) (pa_cons (pv 2) pa_nil))))) pss_nil) (pss_cons (ps_if (pt_cmpR op_eq (pv 3) pe_str (nomark _)) (pss_one (ps_ret (pe_op op_mul pe_int (pe_ix ix_tup (pv 2) (pe_ix ix_tup (pv 0) pe_int (fun _ _ => rfl)) (fun _ _ => rfl))))) pss_nil) (pss_cons (ps_if (pt_cmpR op_eq (pv 3) pe_str (nomark _)) (pss_one (ps_ret (pe_op op_mul (pe_ix ix_tup (pv 0) pe_int (fun _ _ => rfl)) (pe_c c_worth hr (by omega) (by rfl) (pa_cons (pe_ix ix_tup (pv 0) pe_int (fun _ _ => rfl)) (pa_cons (pv 1) (pa_cons (pv 2) pa_nil))))))) pss_nil) (pss_cons (ps_if (pt_cmpR op_eq (pv 3) pe_str (nomark _)) (pss_one (ps_ret (pe_op op_mul (pe_ix ix_tup (pv 1) (pe_ix ix_tup (pv 0) pe_int (fun _ _ => rfl)) (fun _ _ => rfl)) (pe_c c_worth hr (by omega) (by rfl) (pa_cons (pe_ix ix_tup (pv 0) pe_int (fun _ _ => rfl)) (pa_cons (pv 1) (pa_cons (pv 2) pa_nil))))))) pss_nil) (pss_cons (ps_if (pt_cmpR op_eq (pv 3) pe_str (nomark _)) (pss_one (ps_ret (pe_c c_worth hr (by omega) (by rfl) (pa_cons (pe_c c_led_part hr (by omega) (by rfl) (pa_cons (pv 0) (pa_cons (pv 1) pa_nil))) (pa_cons (pv 1) (pa_cons (pv 2) pa_nil)))))) pss_nil) (pss_cons (ps_if (pt_cmpR op_eq (pv 3) pe_str (nomark _)) (pss_one (ps_ret (pe_c c_worth hr (by omega) (by rfl) (pa_cons (pe_c c_side_part hr (by omega) (by rfl) (pa_cons (pv 0) (pa_cons (pv 2) pa_nil))) (pa_cons (pv 1) (pa_cons (pv 2) pa_nil)))))) pss_nil) (pss_cons (ps_set (i := 4) sc_worth.nd rfl (.inl rfl) (pe_c c_worth hr (by omega) (by rfl) (pa_cons (pe_ix ix_tup (pv 0) pe_int (fun _ _ => rfl)) (pa_cons (pv 1) (pa_cons (pv 2) pa_nil))))) (pss_cons (ps_set (i := 5) sc_worth.nd rfl (.inl rfl) (pe_c c_worth hr (by omega) (by rfl) (pa_cons (pe_ix ix_tup (pv 0) pe_int (fun _ _ => rfl)) (pa_cons (pv 1) (pa_cons (pv 2) pa_nil))))) (pss_one (ps_ret (pe_c c_join_worths hr (by omega) (by rfl) (pa_cons (pv 3) (pa_cons (pv 4) (pa_cons (pv 5) pa_nil)))))))))))))))), ?_⟩
    have hR0 := hR
    have hS0 := hS
    obtain ⟨r, rfl, hr1, hr2, hr3⟩ := hR
    obtain ⟨t, rfl, ht1, ht2, ht3, ht4, ht5⟩ := hS
    have rb : ∀ i, i < 4 → -1000 ≤ rs.getD i 0 ∧ rs.getD i 0 ≤ 1000 := fun i hi => hr3 _ (getD_mem (by omega))
    cases e with
    | fig c =>
      obtain ⟨p, rfl, hp⟩ := he
      obtain ⟨o1, o2⟩ := ho
      refine ⟨.ref p, rfl, p, _, 0, _, rfl, rfl, hp, rfl, ?_⟩
      refine ⟨_, rfl, rfl, _, rfl, iteTT (by decide) ?_⟩
      exact ⟨.ref p, rfl, p, _, 1, _, rfl, rfl, hp, rfl, .ref t, rfl, t, ss, rfl, ht1, c, _, rfl, rfl, .inl ⟨by omega, by omega⟩, q⟩
    | reg i =>
      obtain ⟨p, rfl, hp⟩ := he
      have ho : i < 4 := ho
      have := rb i ho
      refine ⟨.ref p, rfl, p, _, 0, _, rfl, rfl, hp, rfl, ?_⟩
      refine ⟨_, rfl, rfl, _, rfl, iteFF (by decide) ⟨_, rfl, rfl, _, rfl, iteTT (by decide) ?_⟩⟩
      exact ⟨.ref r, rfl, .ref p, rfl, p, _, 1, _, rfl, rfl, hp, rfl, r, _, _, _, rfl, rfl, hr1, at_nth (by omega), .ref t, rfl, t, ss, rfl, ht1, _, _, rfl, rfl, .inl ⟨by omega, by omega⟩, q⟩
    | share j =>
      obtain ⟨p, rfl, hp⟩ := he
      have ho : j < many := ho
      refine ⟨.ref p, rfl, p, _, 0, _, rfl, rfl, hp, rfl, ?_⟩
      refine ⟨_, rfl, rfl, _, rfl, iteFF (by decide) ⟨_, rfl, rfl, _, rfl, iteFF (by decide) ⟨_, rfl, rfl, _, rfl, iteTT (by decide) ?_⟩⟩⟩
      exact ⟨.ref t, rfl, .ref p, rfl, p, _, 1, _, rfl, rfl, hp, rfl, t, _, _, _, rfl, rfl, ht1, at_nth (by omega), 1000, _, rfl, rfl, .inl ⟨by decide, by decide⟩, q⟩
    | times fa a =>
      obtain ⟨p, x, rfl, hp, ha⟩ := he
      obtain ⟨⟨o1, o2⟩, oa⟩ := ho
      have hd : a.dep + 1 ≤ n + 1 := hd
      refine ⟨.ref p, rfl, p, _, 0, _, rfl, rfl, hp, rfl, ?_⟩
      refine ⟨_, rfl, rfl, _, rfl, iteFF (by decide) ⟨_, rfl, rfl, _, rfl, iteFF (by decide) ⟨_, rfl, rfl, _, rfl, iteFF (by decide) ⟨_, rfl, rfl, _, rfl, iteTT (by decide) ?_⟩⟩⟩⟩
      refine ⟨.ref p, rfl, p, _, 1, _, rfl, rfl, hp, rfl, .ref p, rfl, p, _, 2, _, rfl, rfl, hp, rfl, .ref r, rfl, .ref t, rfl, ?_⟩
      exact ⟨x, _, _, a, many, rs, ss, rfl, ha, oa, by omega, hR0, hS0, fa, _, rfl, rfl, .inl ⟨by omega, by omega⟩, q⟩
    | «by» i a =>
      obtain ⟨p, x, rfl, hp, ha⟩ := he
      obtain ⟨o1, oa⟩ := ho
      have := rb i o1
      have hd : a.dep + 1 ≤ n + 1 := hd
      refine ⟨.ref p, rfl, p, _, 0, _, rfl, rfl, hp, rfl, ?_⟩
      refine ⟨_, rfl, rfl, _, rfl, iteFF (by decide) ⟨_, rfl, rfl, _, rfl, iteFF (by decide) ⟨_, rfl, rfl, _, rfl, iteFF (by decide) ⟨_, rfl, rfl, _, rfl, iteFF (by decide) ⟨_, rfl, rfl, _, rfl, iteTT (by decide) ?_⟩⟩⟩⟩⟩
      refine ⟨.ref r, rfl, .ref p, rfl, p, _, 1, _, rfl, rfl, hp, rfl, r, _, _, _, rfl, rfl, hr1, at_nth (by omega), .ref p, rfl, p, _, 2, _, rfl, rfl, hp, rfl, .ref r, rfl, .ref t, rfl, ?_⟩
      exact ⟨x, _, _, a, many, rs, ss, rfl, ha, oa, by omega, hR0, hS0, _, _, rfl, rfl, .inl ⟨by omega, by omega⟩, q⟩
    | when i c x1 y1 =>
      obtain ⟨p, x, y, rfl, hp, ha, hb⟩ := he
      obtain ⟨o1, _, oa, ob⟩ := ho
      have hd : max x1.dep y1.dep + 1 ≤ n + 1 := hd
      refine ⟨.ref p, rfl, p, _, 0, _, rfl, rfl, hp, rfl, ?_⟩
      refine ⟨_, rfl, rfl, _, rfl, iteFF (by decide) ⟨_, rfl, rfl, _, rfl, iteFF (by decide) ⟨_, rfl, rfl, _, rfl, iteFF (by decide) ⟨_, rfl, rfl, _, rfl, iteFF (by decide) ⟨_, rfl, rfl, _, rfl, iteFF (by decide) ⟨_, rfl, rfl, _, rfl, iteTT (by decide) ?_⟩⟩⟩⟩⟩⟩
      refine ⟨.ref p, rfl, .ref r, rfl, p, _, x, y, i, c, rs, rfl, hp, o1, hR0, .ref r, rfl, .ref t, rfl, ?_⟩
      by_cases hc : rs.getD i 0 < c
      · rw [if_pos hc]
        refine ⟨x, _, _, x1, many, rs, ss, rfl, ha, oa, by omega, hR0, hS0, ?_⟩
        have q2 : Q (.int (if rs.getD i 0 < c then wo rs ss x1 else wo rs ss y1)) H := q
        rw [if_pos hc] at q2
        exact q2
      · rw [if_neg hc]
        refine ⟨y, _, _, y1, many, rs, ss, rfl, hb, ob, by omega, hR0, hS0, ?_⟩
        have q2 : Q (.int (if rs.getD i 0 < c then wo rs ss x1 else wo rs ss y1)) H := q
        rw [if_neg hc] at q2
        exact q2
    | whr j c x1 y1 =>
      obtain ⟨p, x, y, rfl, hp, ha, hb⟩ := he
      obtain ⟨o1, o2, oa, ob⟩ := ho
      have hd : max x1.dep y1.dep + 1 ≤ n + 1 := hd
      refine ⟨.ref p, rfl, p, _, 0, _, rfl, rfl, hp, rfl, ?_⟩
      refine ⟨_, rfl, rfl, _, rfl, iteFF (by decide) ⟨_, rfl, rfl, _, rfl, iteFF (by decide) ⟨_, rfl, rfl, _, rfl, iteFF (by decide) ⟨_, rfl, rfl, _, rfl, iteFF (by decide) ⟨_, rfl, rfl, _, rfl, iteFF (by decide) ⟨_, rfl, rfl, _, rfl, iteFF (by decide) ⟨_, rfl, rfl, _, rfl, iteTT (by decide) ?_⟩⟩⟩⟩⟩⟩⟩
      refine ⟨.ref p, rfl, .ref t, rfl, p, _, x, y, many, j, c, ss, rfl, hp, o1, o2, hS0, .ref r, rfl, .ref t, rfl, ?_⟩
      by_cases hc : 1000 * ss.getD j 0 < c * ss.sum
      · rw [if_pos hc]
        refine ⟨x, _, _, x1, many, rs, ss, rfl, ha, oa, by omega, hR0, hS0, ?_⟩
        have q2 : Q (.int (if 1000 * ss.getD j 0 < c * ss.sum then wo rs ss x1 else wo rs ss y1)) H := q
        rw [if_pos hc] at q2
        exact q2
      · rw [if_neg hc]
        refine ⟨y, _, _, y1, many, rs, ss, rfl, hb, ob, by omega, hR0, hS0, ?_⟩
        have q2 : Q (.int (if 1000 * ss.getD j 0 < c * ss.sum then wo rs ss x1 else wo rs ss y1)) H := q
        rw [if_neg hc] at q2
        exact q2
    | two o x1 y1 =>
      obtain ⟨p, x, y, rfl, hp, ha, hb⟩ := he
      obtain ⟨oa, ob⟩ := ho
      have hd : max x1.dep y1.dep + 1 ≤ n + 1 := hd
      refine ⟨.ref p, rfl, p, _, 0, _, rfl, rfl, hp, rfl, ?_⟩
      refine ⟨_, rfl, rfl, _, rfl, iteFF (wn_ne (by simp)) ⟨_, rfl, rfl, _, rfl, iteFF (wn_ne (by simp)) ⟨_, rfl, rfl, _, rfl, iteFF (wn_ne (by simp)) ⟨_, rfl, rfl, _, rfl, iteFF (wn_ne (by simp)) ⟨_, rfl, rfl, _, rfl, iteFF (wn_ne (by simp)) ⟨_, rfl, rfl, _, rfl, iteFF (wn_ne (by simp)) ⟨_, rfl, rfl, _, rfl, iteFF (wn_ne (by simp)) ?_⟩⟩⟩⟩⟩⟩⟩
      refine ⟨.ref p, rfl, p, _, 1, _, rfl, rfl, hp, rfl, .ref r, rfl, .ref t, rfl, x, _, _, x1, many, rs, ss, rfl, ha, oa, by omega, hR0, hS0, ?_⟩
      refine ⟨.ref p, rfl, p, _, 2, _, rfl, rfl, hp, rfl, .ref r, rfl, .ref t, rfl, y, _, _, y1, many, rs, ss, rfl, hb, ob, by omega, hR0, hS0, ?_⟩
      exact ⟨_, rfl, _, rfl, _, rfl, o, _, _, rfl, q⟩
theorem ok_worth {f : Addr} {fd : FuncData} (F : Fun K "worth" "worth" s_worth f fd) (gF : mg "worth" = some (.ref f)) (b : Binds K fd ["expression", "registers", "shares"] []) (B : Bl mg) (c_led_part : Cal P w K mg base 1 "led_part" (spLed K)) (c_side_part : Cal P w K mg base 1 "side_part" (spSide K)) (c_join_worths : Cal P w K mg base 1 "join_worths" spJoinW) : ∀ n, Cal P w K mg base (n + 2) "worth" (spWorth K n) := fun n => ⟨f, fd, _, fn_worth F gF b B c_led_part c_side_part c_join_worths n, gF, F.kp, b⟩
end
end NG

namespace NG
open PySem PySem.Spec PyProof.Rows L2
section
variable {P : Program} {w : World} {K : PySem.W.Frag} {mg : Str → Option Value} {base : Heap}
theorem ok_leaf {f : Addr} {fd : FuncData} (F : Fun K "_law_leaf" "_law_leaf" s_L_leaf f fd) (gF : mg "_law_leaf" = some (.ref f)) (b : Binds K fd ["_law_hand_here", "_law_many"] []) (B : Bl mg) (c_L_take : Cal P w K mg base 1 "_law_take" spTake) (c_L_figure : Cal P w K mg base 3 "_law_figure" spFigure) : Cal P w K mg base 4 "_law_leaf" (spLeaf K) := by
  refine ⟨f, fd, _, F.ok sc_L_leaf (fun vs H Q E h => ?_) (fun cdv A outer s H vs Q E hr h => ?_), gF, F.kp, b⟩
  · obtain ⟨_, _, _, rfl, _⟩ := h
    rfl
  · obtain ⟨a, many, n, rfl, hm1, hm2, hh, hn, q⟩ := h
    refine ⟨_, (pss_cons (ps_set (i := 2) sc_L_leaf.nd rfl (.inl rfl) (pe_c c_L_take hr (by omega) (by rfl) (pa_cons (pv 0) (pa_cons pe_int pa_nil)))) (pss_cons (ps_if (pt_cmpR op_eq (pv 2) pe_int (nomark _)) (pss_one (ps_ret (pe_tup (pa_cons pe_str (pa_cons (pe_c c_L_take hr (by omega) (by rfl) (pa_cons (pv 0) (pa_cons pe_int pa_nil))) pa_nil))))) pss_nil) (pss_one (ps_ret (pe_ifExp (pt_cmpR op_eq (pv 2) pe_int (nomark _)) (pe_tup (pa_cons pe_str (pa_cons (pe_c c_L_figure hr (by omega) (by rfl) (pa_cons (pv 0) pa_nil)) pa_nil))) (pe_tup (pa_cons pe_str (pa_cons (pe_c c_L_take hr (by omega) (by rfl) (pa_cons (pv 0) (pa_cons (pv 1) pa_nil))) pa_nil)))))))), ?_⟩
    refine ⟨.ref a, rfl, a, 4, n, rfl, by decide, by decide, hh, by omega, fun H1 r b1 hh1 r0 r1 => ?_⟩
    refine ⟨.int r, rfl, rfl, _, rfl, iteD (fun c => ?_) (fun c => ?_)⟩
    · refine ⟨.ref a, rfl, a, 4, n + 1, rfl, by decide, by decide, hh1, by omega, fun H2 r2 b2 hh2 r20 r21 => ⟨(by show 2 ≤ sizeLine; decide), fun p np => ?_⟩⟩
      refine q _ _ (.reg r2.toNat) ((b1.trans b2).trans (But.new np)) ((hh2.new np).le (by omega)) ⟨p, rfl, ?_⟩ (by show r2.toNat < 4; omega) (Nat.le_refl _)
      rw [Int.toNat_of_nonneg r20]
      exact SqT.of upd_same
    · refine ⟨.int r, rfl, rfl, _, rfl, iteD (fun c => ?_) (fun c => ?_)⟩
      · refine ⟨.ref a, rfl, a, n + 1, rfl, hh1, by omega, fun H2 r2 b2 hh2 r20 r21 => ⟨(by show 2 ≤ sizeLine; decide), fun p np => ?_⟩⟩
        exact q _ _ (.fig r2) ((b1.trans b2).trans (But.new np)) ((hh2.new np).le (by omega)) ⟨p, rfl, SqT.of upd_same⟩ ⟨r20, r21⟩ (Nat.le_refl _)
      · refine ⟨.ref a, rfl, .int (many : Int), rfl, a, _, n + 1, rfl, by omega, by omega, hh1, by omega, fun H2 r2 b2 hh2 r20 r21 => ⟨(by show 2 ≤ sizeLine; decide), fun p np => ?_⟩⟩
        refine q _ _ (.share r2.toNat) ((b1.trans b2).trans (But.new np)) ((hh2.new np).le (by omega)) ⟨p, rfl, ?_⟩ (by show r2.toNat < many; omega) (Nat.le_refl _)
        rw [Int.toNat_of_nonneg r20]
        exact SqT.of upd_same
def isW (s : Str) : Prop := s = "sum" ∨ s = "less" ∨ s = "least" ∨ s = "most" ∨ s = "times" ∨ s = "by" ∨ s = "when" ∨ s = "leaf" ∨ s = "where"
theorem ok_expr {f : Addr} {fd : FuncData} (F : Fun K "_law_expression" "_law_expression" s_L_expression f fd) (gF : mg "_law_expression" = some (.ref f)) (b : Binds K fd ["_law_hand_here", "_law_many", "_law_level", "_law_jumps"] []) (B : Bl mg) (c_L_take : Cal P w K mg base 1 "_law_take" spTake) (c_L_of : Cal P w K mg base 2 "_law_of" (spOf K)) (c_L_figure : Cal P w K mg base 3 "_law_figure" spFigure) (c_L_leaf : Cal P w K mg base 4 "_law_leaf" (spLeaf K)) : ∀ n, Cal P w K mg base (n + 4) "_law_expression" (spExpr K n) := by
  intro n
  induction n with
  | zero =>
    refine cal_never F gF b fun vs H Q E h => ?_
    obtain ⟨_, _, l, _, _, hl, _⟩ := h
    omega
  | succ n c_L_expression =>
  refine ⟨f, fd, _, F.ok sc_L_expression (fun vs H Q E h => ?_) (fun cdv A outer s H vs Q E hr h => ?_), gF, F.kp, b⟩
  · obtain ⟨_, _, _, _, rfl, _⟩ := h
    rfl
  · obtain ⟨a, many, l, k, rfl, hl, hm1, hm2, hh, hk, q⟩ := h
    refine ⟨_, (pss_cons (ps_set (i := 4) sc_L_expression.nd rfl (.inl rfl) (pe_lst (pa_cons pe_str (pa_cons pe_str (pa_cons pe_str (pa_cons pe_str (pa_cons pe_str (pa_cons pe_str (pa_cons pe_str (pa_cons pe_str (pa_cons pe_str (pa_cons pe_str pa_nil)))))))))))) (pss_cons (ps_set (i := 4) sc_L_expression.nd rfl (.inl rfl) (pe_op op_cat (pv 4) (pe_op op_rep (pe_lst (pa_cons pe_str (pa_cons pe_str pa_nil))) (pv 3)))) (pss_cons (ps_set (i := 5) sc_L_expression.nd rfl (.inl rfl) (pe_cut (pe_ifExp (pt_cmpR op_eq (pv 2) pe_int (nomark _)) pe_str (pe_c c_L_of hr (by omega) (by rfl) (pa_cons (pv 0) (pa_cons (pv 4) pa_nil)))))) (pss_cons (ps_if (pt_cmpR op_eq (pv 5) pe_str (nomark _)) (pss_one (ps_ret (pe_c c_L_leaf hr (by omega) (by rfl) (pa_cons (pv 0) (pa_cons (pv 1) pa_nil))))) pss_nil) (pss_cons (ps_set (i := 6) sc_L_expression.nd rfl (.inl rfl) (pe_c c_L_expression hr (by omega) (by rfl) (pa_cons (pv 0) (pa_cons (pv 1) (pa_cons (pe_op op_sub (pv 2) pe_int) (pa_cons (pv 3) pa_nil)))))) (pss_cons (ps_if (pt_cmpR op_eq (pv 5) pe_str (nomark _)) (pss_one (ps_ret (pe_tup (pa_cons (pv 5) (pa_cons (pe_op op_sub (pe_c c_L_take hr (by omega) (by rfl) (pa_cons (pv 0) (pa_cons pe_int pa_nil))) pe_int) (pa_cons (pv 6) pa_nil)))))) pss_nil) (pss_cons (ps_if (pt_cmpR op_eq (pv 5) pe_str (nomark _)) (pss_one (ps_ret (pe_tup (pa_cons (pv 5) (pa_cons (pe_c c_L_take hr (by omega) (by rfl) (pa_cons (pv 0) (pa_cons pe_int pa_nil))) (pa_cons (pv 6) pa_nil)))))) pss_nil) (pss_cons (ps_set (i := 7) sc_L_expression.nd rfl (.inl rfl) (pe_c c_L_expression hr (by omega) (by rfl) (pa_cons (pv 0) (pa_cons (pv 1) (pa_cons (pe_op op_sub (pv 2) pe_int) (pa_cons (pv 3) pa_nil)))))) (pss_cons (ps_if (pt_cmpR op_eq (pv 5) pe_str (nomark _)) (pss_one (ps_ret (pe_tup (pa_cons (pv 5) (pa_cons (pe_c c_L_take hr (by omega) (by rfl) (pa_cons (pv 0) (pa_cons pe_int pa_nil))) (pa_cons (pe_c c_L_figure hr (by omega) (by rfl) (pa_cons (pv 0) pa_nil)) (pa_cons (pv 6) (pa_cons (pv 7) pa_nil)))))))) pss_nil) (pss_cons (ps_if (pt_cmpR op_eq (pv 5) pe_str (nomark _)) (pss_cons (ps_set (i := 8) sc_L_expression.nd rfl (.inl rfl) (pe_c c_L_of hr (by omega) (by rfl) (pa_cons (pv 0) (pa_cons (pe_lst (pa_cons pe_int (pa_cons pe_int (pa_cons pe_int (pa_cons pe_int (pa_cons pe_int (pa_cons (pe_op op_add pe_int (pe_c c_L_take hr (by omega) (by rfl) (pa_cons (pv 0) (pa_cons pe_int pa_nil)))) pa_nil))))))) pa_nil)))) (pss_one (ps_ret (pe_tup (pa_cons (pv 5) (pa_cons (pe_c c_L_take hr (by omega) (by rfl) (pa_cons (pv 0) (pa_cons (pv 1) pa_nil))) (pa_cons (pv 8) (pa_cons (pv 6) (pa_cons (pv 7) pa_nil))))))))) pss_nil) (pss_one (ps_ret (pe_tup (pa_cons (pv 5) (pa_cons (pv 6) (pa_cons (pv 7) pa_nil)))))))))))))))), ?_⟩
    refine ⟨(by show 10 ≤ sizeLine; decide), fun p1 n1 => ?_⟩
    have hh1 := hh.new (o := .lst [.str "sum", .str "less", .str "least", .str "most", .str "least", .str "most", .str "times", .str "by", .str "when", .str "leaf"]) n1
    refine ⟨.ref p1, rfl, (by show 2 ≤ sizeLine; decide), fun p2 n2 => ?_⟩
    have e1 : (upd H p1 (.lst [.str "sum", .str "less", .str "least", .str "most", .str "least", .str "most", .str "times", .str "by", .str "when", .str "leaf"])) p1 = _ := upd_same
    have hh2 := hh1.new (o := .lst [.str "where", .str "where"]) n2
    refine ⟨.int 1, rfl, p2, 1, _, rfl, rfl, upd_same, by decide, by decide, (by show 2 * 1 ≤ sizeLine; decide), fun p3 n3 => ?_⟩
    have hh3 := hh2.new (o := .lst [.str "where", .str "where"]) n3
    have e2 : (upd (upd H p1 (.lst [.str "sum", .str "less", .str "least", .str "most", .str "least", .str "most", .str "times", .str "by", .str "when", .str "leaf"])) p2 (.lst [.str "where", .str "where"])) p1 = _ := (upd_ne (ne_of_none e1 n2)).trans e1
    refine ⟨p1, p3, _, _, rfl, rfl, (upd_ne (ne_of_none e2 n3)).trans e2, upd_same, (by show 12 ≤ sizeLine; decide), fun p4 n4 => ?_⟩
    have hh4 := hh3.new (o := .lst [.str "sum", .str "less", .str "least", .str "most", .str "least", .str "most", .str "times", .str "by", .str "when", .str "leaf", .str "where", .str "where"]) n4
    have b4 : But a H _ := (((But.new (a := a) n1).trans (But.new n2)).trans (But.new n3)).trans (But.new (o := .lst [.str "sum", .str "less", .str "least", .str "most", .str "least", .str "most", .str "times", .str "by", .str "when", .str "leaf", .str "where", .str "where"]) n4)
    have ne4 := hh3.ne n4
    -- the word
    refine ⟨fun v H' => But a H H' ∧ HandAt H' a (k + 1) ∧ ∃ s : Str, v = .str s ∧ isW s ∧ (l = 0 → s = "leaf"), ?_, fun v H5 hv => ?_⟩
    · refine ⟨.int (l : Int), rfl, rfl, _, rfl, iteD (fun c => ?_) (fun c => ?_)⟩
      · exact ⟨b4, hh4.le (by omega), _, rfl, by unfold isW; simp, fun _ => rfl⟩
      · refine ⟨.ref a, rfl, .ref p4, rfl, a, p4, _, k, rfl, ne4.symm, upd_same, (by show 0 < 12; decide), (by show 12 ≤ 1000; decide), hh4, by omega, fun H5 v b5 hh5 hv => ⟨b4.trans b5, hh5, ?_⟩⟩
        have hl0 : l ≠ 0 := fun z => c (by rw [z]; rfl)
        have key : ∃ s : Str, v = .str s ∧ isW s := by
          have hv : v ∈ ([.str "sum", .str "less", .str "least", .str "most", .str "least", .str "most", .str "times", .str "by", .str "when", .str "leaf", .str "where", .str "where"] : List V) := hv
          simp only [List.mem_cons, List.not_mem_nil, or_false] at hv
          rcases hv with rfl | rfl | rfl | rfl | rfl | rfl | rfl | rfl | rfl | rfl | rfl | rfl
          all_goals exact ⟨_, rfl, by unfold isW; simp⟩
        obtain ⟨s, rfl, hs⟩ := key
        exact ⟨s, rfl, hs, fun z => absurd z hl0⟩
    obtain ⟨b5, hh5, sw, rfl, hw, hl0⟩ := hv
    refine ⟨.str sw, rfl, rfl, _, rfl, iteD (fun c => ?_) (fun c => ?_)⟩
    · refine ⟨.ref a, rfl, .int (many : Int), rfl, a, many, k + 1, rfl, hm1, hm2, hh5, by have := cost_ge l; omega, fun H6 v e b6 hh6 he ho hd => ?_⟩
      exact q _ _ e (b5.trans b6) (hh6.le (by have := cost_ge l; omega)) he ho (by omega)
    · have hsl : sw ≠ "leaf" := fun z => c (by rw [z])
      obtain ⟨l', rfl⟩ : ∃ l', l = l' + 1 := by
        cases l with
        | zero => exact absurd (hl0 rfl) hsl
        | succ l' => exact ⟨l', rfl⟩
      have hcost : cost (l' + 1) = 2 * cost l' + 20 := rfl
      have elev : V.int (((l' + 1 : Nat) : Int) - 1) = V.int (l' : Int) := by
        congr 1
        omega
      refine ⟨.ref a, rfl, .int (many : Int), rfl, .int ((l' + 1 : Nat) : Int), rfl, _, 1, rfl, rfl, .int 1, rfl, a, many, l', k + 1, (by show [V.ref a, V.int (many : Int), V.int (((l' + 1 : Nat) : Int) - 1), V.int 1] = _; rw [elev]), by omega, hm1, hm2, hh5, by omega, fun H6 x e1 b6 hh6 he1 ho1 hd1 => ?_⟩
      have b06 := b5.trans b6
      -- times
      refine ⟨.str sw, rfl, rfl, _, rfl, iteD (fun c => ?_) (fun ct => ?_)⟩
      · have c : sw = "times" := V.str.inj c
        subst c
        refine ⟨_, rfl, .ref a, rfl, a, 19, _, rfl, by decide, by decide, hh6, by omega, fun H7 r b7 hh7 r0 r1 => ⟨_, 9, rfl, rfl, x, rfl, (by show 3 ≤ sizeLine; decide), fun p np => ?_⟩⟩
        exact q _ _ (.times (r - 9) e1) ((b06.trans b7).trans (But.new np)) ((hh7.new np).le (by omega)) ⟨p, x, rfl, SqT.of upd_same, (he1.but b7 hh6).new np⟩ ⟨⟨by omega, by omega⟩, ho1⟩ (by show e1.dep + 1 ≤ _; omega)
      -- by
      refine ⟨.str sw, rfl, rfl, _, rfl, iteD (fun c => ?_) (fun cb => ?_)⟩
      · have c : sw = "by" := V.str.inj c
        subst c
        refine ⟨_, rfl, .ref a, rfl, a, 4, _, rfl, by decide, by decide, hh6, by omega, fun H7 r b7 hh7 r0 r1 => ⟨x, rfl, (by show 3 ≤ sizeLine; decide), fun p np => ?_⟩⟩
        refine q _ _ (.by r.toNat e1) ((b06.trans b7).trans (But.new np)) ((hh7.new np).le (by omega)) ⟨p, x, rfl, ?_, (he1.but b7 hh6).new np⟩ ⟨by omega, ho1⟩ (by show e1.dep + 1 ≤ _; omega)
        rw [Int.toNat_of_nonneg r0]
        exact SqT.of upd_same
      -- the other part
      refine ⟨.ref a, rfl, .int (many : Int), rfl, .int ((l' + 1 : Nat) : Int), rfl, _, 1, rfl, rfl, .int 1, rfl, a, many, l', k + 1 + cost l', (by show [V.ref a, V.int (many : Int), V.int (((l' + 1 : Nat) : Int) - 1), V.int 1] = _; rw [elev]), by omega, hm1, hm2, hh6, by omega, fun H7 y e2 b7 hh7 he2 ho2 hd2 => ?_⟩
      have b07 := b06.trans b7
      have he1 := he1.but b7 hh6
      -- when
      refine ⟨.str sw, rfl, rfl, _, rfl, iteD (fun c => ?_) (fun cw => ?_)⟩
      · have c : sw = "when" := V.str.inj c
        subst c
        refine ⟨_, rfl, .ref a, rfl, a, 4, _, rfl, by decide, by decide, hh7, by omega, fun H8 r b8 hh8 r0 r1 => ⟨.ref a, rfl, a, _, rfl, hh8, by omega, fun H9 cc b9 hh9 c0 c1 => ⟨x, rfl, y, rfl, (by show 5 ≤ sizeLine; decide), fun p np => ?_⟩⟩⟩
        refine q _ _ (.when r.toNat cc e1 e2) (((b07.trans b8).trans b9).trans (But.new np)) ((hh9.new np).le (by omega)) ⟨p, x, y, rfl, ?_, ((he1.but b8 hh7).but b9 hh8).new np, ((he2.but b8 hh7).but b9 hh8).new np⟩ ⟨by omega, ⟨c0, c1⟩, ho1, ho2⟩ (by show max e1.dep e2.dep + 1 ≤ _; omega)
        rw [Int.toNat_of_nonneg r0]
        exact SqT.of upd_same
      -- where
      refine ⟨.str sw, rfl, rfl, _, rfl, iteD (fun c => ?_) (fun cr => ?_)⟩
      · have c : sw = "where" := V.str.inj c
        subst c
        refine ⟨.ref a, rfl, .ref a, rfl, a, 1000, _, rfl, by decide, by decide, hh7, by omega, fun H8 r b8 hh8 r0 r1 => ⟨1, _, rfl, rfl, (by show 6 ≤ sizeLine; decide), fun p5 n5 => ?_⟩⟩
        have hh9 := hh8.new (o := .lst [.int 1, .int 250, .int 333, .int 500, .int 1000, .int (1 + r)]) n5
        refine ⟨a, p5, _, _, rfl, (hh8.ne n5).symm, upd_same, (by show 0 < 6; decide), (by show 6 ≤ 1000; decide), hh9, by omega, fun H10 v b10 hh10 hv => ?_⟩
        have key : ∃ cc : Int, v = .int cc ∧ 1 ≤ cc ∧ cc ≤ 1000 := by
          have hv : v ∈ ([.int 1, .int 250, .int 333, .int 500, .int 1000, .int (1 + r)] : List V) := hv
          simp only [List.mem_cons, List.not_mem_nil, or_false] at hv
          rcases hv with rfl | rfl | rfl | rfl | rfl | rfl
          all_goals exact ⟨_, rfl, by omega, by omega⟩
        obtain ⟨cc, rfl, c0, c1⟩ := key
        refine ⟨_, rfl, .ref a, rfl, .int (many : Int), rfl, a, many, _, rfl, by omega, by omega, hh10, by omega, fun H11 j b11 hh11 j0 j1 => ⟨_, rfl, x, rfl, y, rfl, (by show 5 ≤ sizeLine; decide), fun p np => ?_⟩⟩
        refine q _ _ (.whr j.toNat cc e1 e2) (((((b07.trans b8).trans (But.new n5)).trans b10).trans b11).trans (But.new np)) ((hh11.new np).le (by omega)) ⟨p, x, y, rfl, ?_, ((((he1.but b8 hh7).new n5).but b10 hh9).but b11 hh10).new np, ((((he2.but b8 hh7).new n5).but b10 hh9).but b11 hh10).new np⟩ ⟨by omega, ⟨c0, c1⟩, ho1, ho2⟩ (by show max e1.dep e2.dep + 1 ≤ _; omega)
        rw [Int.toNat_of_nonneg j0]
        exact SqT.of upd_same
      -- the others
      refine ⟨_, rfl, x, rfl, y, rfl, (by show 3 ≤ sizeLine; decide), fun p np => ?_⟩
      have key : ∃ o : W4, sw = wn o := by
        rcases hw with rfl | rfl | rfl | rfl | rfl | rfl | rfl | rfl | rfl
        · exact ⟨.sum, rfl⟩
        · exact ⟨.less, rfl⟩
        · exact ⟨.least, rfl⟩
        · exact ⟨.most, rfl⟩
        · exact absurd rfl ct
        · exact absurd rfl cb
        · exact absurd rfl cw
        · exact absurd rfl hsl
        · exact absurd rfl cr
      obtain ⟨o, rfl⟩ := key
      exact q _ _ (.two o e1 e2) (b07.trans (But.new np)) ((hh7.new np).le (by omega)) ⟨p, x, y, rfl, SqT.of upd_same, he1.new np, he2.new np⟩ ⟨ho1, ho2⟩ (by show max e1.dep e2.dep + 1 ≤ _; omega)
end
end NG

namespace NG
open PySem PySem.Spec PyProof.Rows L2
section
variable {P : Program} {w : World} {K : PySem.W.Frag} {mg : Str → Option Value} {base : Heap}
theorem ok_low {f : Addr} {fd : FuncData} (F : Fun K "_law_lowest" "_law_lowest" s_L_lowest f fd) (gF : mg "_law_lowest" = some (.ref f)) (b : Binds K fd ["_law_row"] []) (B : Bl mg) : Cal P w K mg base 1 "_law_lowest" (spLow K) := by
  refine ⟨f, fd, _, F.ok sc_L_lowest (fun vs H Q E h => ?_) (fun cdv A outer s H vs Q E hr h => ?_), gF, F.kp, b⟩
  · obtain ⟨_, _, _, rfl, _⟩ := h
    rfl
  · obtain ⟨p, ns, y, rfl, hp, hb, hl, hy, py, q⟩ := h
    refine ⟨_, (pss_cons (ps_set (i := 1) sc_L_lowest.nd rfl (.inr rfl) pe_int) (pss_cons (ps_for PassesOwn.never rfl (pi_list (pv 0)) (pg_name (i := 2) sc_L_lowest.nd rfl (.inl rfl)) (pss_one (ps_while PassesOwn.never (pt_cmpR op_ne (pv 2) pe_int (nomark _)) (pss_one (ps_asg (pe_tup (pa_cons (pv 2) (pa_cons (pe_op op_mod (pv 1) (pv 2)) pa_nil))) (pg_tup rfl (pgs_cons (pg_name (i := 1) sc_L_lowest.nd rfl (.inr rfl)) (pgs_cons (pg_name (i := 2) sc_L_lowest.nd rfl (.inl rfl)) pgs_nil)))))))) (pss_one (ps_ret (pe_tupleOf (by rfl) B.tuple (pe_lc (own := [("_law_number", 2)]) rfl sc_L_lowest.nd (pi_list (pv 0)) (blkOk_by (N := N_L_lowest) (sc := defScope s_L_lowest) (by decide +kernel)) (fun _ _ _ _ _ => pg_name (i := 2) sc_L_lowest.nd rfl (.inl rfl)) (fun _ _ _ _ _ => pts_nil) (fun _ _ _ _ _ => pe_op op_fdivW (pv 2) (pv 1)))))))), ?_⟩
    refine ⟨.ref p, rfl, p, rfl, ⟨_, SqL.of hp⟩, for_list (xs := ns.map V.int) (fun i σ H' => ∃ y2, σ = [some (.ref p), some (.int (gl (ns.take i) : Int)), y2] ∧ Same H H') ⟨none, rfl, Same.refl _⟩ ?_ ?_ ?_⟩
    · rintro i σ H' hi ⟨y2, rfl, sm⟩
      exact SqL.of (sm _ _ hp)
    · rintro i x σ H' hx ⟨y2, rfl, sm⟩
      rw [List.getElem?_map] at hx
      cases hn : ns[i]? with
      | none => rw [hn] at hx; cases hx
      | some z =>
        rw [hn] at hx
        have ex : V.int z = x := Option.some.inj hx
        subst ex
        have hz := hb z (List.mem_of_getElem? hn)
        refine ⟨fun m σ H' => ∃ u : Nat, σ = [some (.ref p), some (.int (u : Int)), some (.int (m : Int))] ∧ Nat.gcd u m = gl (ns.take (i + 1)) ∧ Same H H', ⟨z.toNat, gl (ns.take i), ?_, (gl_step hn).symm, sm⟩, ?_⟩
        · show [some (.ref p), some (.int _), some (.int z)] = [some (V.ref p), _, _]
          rw [Int.toNat_of_nonneg hz.1]
        · rintro m σ H' ⟨u, rfl, hg, sm⟩
          refine ⟨.int (m : Int), rfl, rfl, _, rfl, ?_⟩
          by_cases h0 : m = 0
          · subst h0
            refine iteFF rfl ?_
            rw [Nat.gcd_zero_right] at hg
            rw [hg]
            exact ⟨_, rfl, sm⟩
          · have hne : ¬ V.int (m : Int) = V.int 0 := fun z => h0 (by have := V.int.inj z; omega)
            refine iteTT (by rw [decide_eq_false hne]; rfl) ?_
            refine ⟨fun σ' H' => ∃ u : Nat, σ' = [some (.ref p), some (.int (m : Int)), some (.int ((u % m : Nat) : Int))] ∧ Nat.gcd u m = gl (ns.take (i + 1)) ∧ Same H H', ?_, ?_⟩
            · rintro σ' H' ⟨u, rfl, hg, sm⟩
              exact ⟨u % m, Nat.mod_lt _ (by omega), m, rfl, by rw [gcd_turn]; exact hg, sm⟩
            · refine ⟨.int (m : Int), rfl, .int (u : Int), rfl, .int (m : Int), rfl, u, m, rfl, rfl, (by show (0 : Int) < m; omega), (by show 2 ≤ sizeLine; decide), fun t nt => ?_⟩
              exact ⟨t, _, rfl, SqT.of upd_same, rfl, _, _, rfl, _, _, rfl, rfl, u, rfl, hg, sm.trans (same_new nt)⟩
    · rintro σ H1 ⟨y2, rfl, sm⟩
      rw [List.length_map, List.take_length]
      have hg := gl_pos hy py
      refine ⟨.ref p, rfl, p, rfl, ⟨_, SqL.of (sm _ _ hp)⟩, fun D nD => lc_list (xs := ns.map V.int) (fun i H' => Same H H' ∧ H' D = some (.lst (((ns.take i).map fun x => x / (gl ns : Int)).map V.int))) ⟨sm.trans (same_new nD), upd_same⟩ (fun i H' _ h => SqL.of (h.1 _ _ hp)) ?_ ?_⟩
      · rintro i x H' hx ⟨sm', hD⟩
        rw [List.getElem?_map] at hx
        cases hn : ns[i]? with
        | none => rw [hn] at hx; cases hx
        | some z =>
          rw [hn] at hx
          have ex : V.int z = x := Option.some.inj hx
          subst ex
          have hgs : gl ns ≤ z.toNat ∨ z = 0 := by
            have hz := hb z (List.mem_of_getElem? hn)
            by_cases h0 : z = 0
            · exact .inr h0
            · exact .inl (Nat.le_of_dvd (by omega) (gl_dvd (List.mem_of_getElem? hn)))
          have hgy : gl ns ≤ y.toNat := Nat.le_of_dvd (by omega) (gl_dvd hy)
          have hyb := hb y hy
          refine ⟨rfl, tYes_in ?_⟩
          refine ⟨.int z, rfl, .int (gl ns : Int), rfl, z, (gl ns : Int), rfl, rfl, wide_div (b := 100) (by omega) (by omega) (by decide) (by decide), _, hD, ?_, ?_, ?_⟩
          · rw [List.length_map, List.length_map, List.length_take]
            exact small1000 (by omega)
          · exact fun b' o e => by
              rw [upd_ne (ne_of_none (sm _ _ e) nD)]
              exact sm' _ _ e
          · rw [upd_same, List.take_add_one, hn, List.map_append, List.map_append]
            rfl
      · rintro H' ⟨sm', hD⟩
        rw [List.length_map, List.take_length] at hD
        refine .inl ⟨D, _, rfl, SqL.of hD, fun t nt => ?_⟩
        obtain ⟨k1, k2, k3⟩ := low_sh hb hl hy py
        exact q _ _ (low ns) (sm'.trans (same_new nt)) ⟨t, rfl, SqT.of upd_same, by unfold low; rw [List.length_map], k1, k2, k3⟩
theorem ok_shares {f : Addr} {fd : FuncData} (F : Fun K "_law_shares" "_law_shares" s_L_shares f fd) (gF : mg "_law_shares" = some (.ref f)) (b : Binds K fd ["_law_hand_here", "_law_many"] []) (B : Bl mg) (c_L_take : Cal P w K mg base 1 "_law_take" spTake) (c_L_of : Cal P w K mg base 2 "_law_of" (spOf K)) (c_L_lowest : Cal P w K mg base 1 "_law_lowest" (spLow K)) : Cal P w K mg base 3 "_law_shares" (spShares K) := by
  refine ⟨f, fd, _, F.ok sc_L_shares (fun vs H Q E h => ?_) (fun cdv A outer s H vs Q E hr h => ?_), gF, F.kp, b⟩
  · obtain ⟨_, _, _, rfl, _⟩ := h
    rfl
  · obtain ⟨a, many, n, rfl, hm1, hm2, hh, hn, q⟩ := h
    refine ⟨_, (pss_cons (ps_set (i := 2) sc_L_shares.nd rfl (.inl rfl) (pe_lst pa_nil)) (pss_cons (ps_for PassesOwn.never rfl (pi_range1 rfl B.range (pa_cons (pv 1) pa_nil)) (pg_name (i := 3) sc_L_shares.nd rfl (.inl rfl)) (pss_cons (ps_set (i := 4) sc_L_shares.nd rfl (.inl rfl) (pe_lst (pa_cons pe_int (pa_cons pe_int (pa_cons pe_int (pa_cons pe_int (pa_cons (pe_c c_L_take hr (by omega) (by rfl) (pa_cons (pv 0) (pa_cons pe_int pa_nil))) (pa_cons (pe_c c_L_take hr (by omega) (by rfl) (pa_cons (pv 0) (pa_cons pe_int pa_nil))) (pa_cons (pe_op op_add (pe_op op_pow pe_int pe_int) (pe_c c_L_take hr (by omega) (by rfl) (pa_cons (pv 0) (pa_cons pe_int pa_nil)))) pa_nil))))))))) (pss_one (ps_expr (pe_bm PySem.F.plainAttrs_list PySem.F.slot_list_append PySem.F.type_list_append mt_append (pv 2) (pa_cons (pe_c c_L_of hr (by omega) (by rfl) (pa_cons (pv 0) (pa_cons (pv 4) pa_nil))) pa_nil)))))) (C8.pss_cut (ps_if (pt_cmpR op_eq (pe_callB (cr_max rfl) (by rfl) B.max (by decide +kernel) (pa_cons (pv 2) pa_nil)) pe_int (nomark _)) (pss_one (ps_asg pe_int (pg_sub (pv 2) (pe_c c_L_take hr (by omega) (by rfl) (pa_cons (pv 0) (pa_cons (pv 1) pa_nil))) set_list))) pss_nil) (pss_one (ps_ret (pe_c c_L_lowest hr (by omega) (by rfl) (pa_cons (pv 2) pa_nil))))))), ?_⟩
    refine ⟨(by show 0 ≤ sizeLine; decide), fun l nl => ?_⟩
    have hla := hh.ne nl
    refine ⟨.int (many : Int), rfl, _, rfl, by omega, by omega, ?_⟩
    refine for_range (n := ((many : Int)).toNat) (fun i σ H' => ∃ y3 y4, ∃ ns : List Int, σ = [some (.ref a), some (.int (many : Int)), some (.ref l), y3, y4] ∧ But a H H' ∧ HandAt H' a (n + 4 * i) ∧ H' l = some (.lst (ns.map V.int)) ∧ ns.length = i ∧ ∀ x ∈ ns, 0 ≤ x ∧ x < 2 ^ 50) ⟨none, none, [], rfl, But.new nl, hh.new nl, upd_same, rfl, fun x h => by cases h⟩ ?_ ?_
    · rintro i σ H1 hi ⟨y3, y4, ns, rfl, b1, hh1, hl1, hlen, hb⟩
      have hi3 : i < 3 := by omega
      refine ⟨.ref a, rfl, a, 12, _, rfl, by decide, by decide, hh1, by omega, fun H2 r2 b2 hh2 r20 r21 => ?_⟩
      refine ⟨.ref a, rfl, a, 1001, _, rfl, by decide, by decide, hh2, by omega, fun H3 r3 b3 hh3 r30 r31 => ?_⟩
      refine ⟨10, 12, rfl, rfl, ⟨by decide, by decide, by decide⟩, .ref a, rfl, a, 9, _, rfl, by decide, by decide, hh3, by omega, fun H4 r4 b4 hh4 r40 r41 => ⟨_, _, rfl, rfl, (by show 7 ≤ sizeLine; decide), fun p np => ?_⟩⟩
      have hpa := hh4.ne np
      have e4 : H4 l = some (.lst (ns.map V.int)) := b4 _ _ hla (b3 _ _ hla (b2 _ _ hla hl1))
      have hpl : l ≠ p := ne_of_none e4 np
      have e5 : (upd H4 p (.lst [.int 0, .int 1, .int 1, .int 2, .int r2, .int r3, .int (10 ^ (12 : Int).toNat + r4)])) l = some (.lst (ns.map V.int)) := (upd_ne hpl).trans e4
      refine ⟨.ref l, rfl, .inl ⟨rfl, _, SqL.of e5⟩, .ref a, rfl, .ref p, rfl, a, p, _, _, rfl, hpa.symm, upd_same, (by show 0 < 7; decide), (by show 7 ≤ 1000; decide), hh4.new np, by omega, fun H6 v b6 hh6 hv => ?_⟩
      have key : ∃ c : Int, v = .int c ∧ 0 ≤ c ∧ c < 2 ^ 50 := by
        have hv : v ∈ ([.int 0, .int 1, .int 1, .int 2, .int r2, .int r3, .int (10 ^ 12 + r4)] : List V) := hv
        simp only [List.mem_cons, List.not_mem_nil, or_false] at hv
        rcases hv with rfl | rfl | rfl | rfl | rfl | rfl | rfl
        all_goals exact ⟨_, rfl, by omega, by omega⟩
      obtain ⟨c, rfl, c0, c1⟩ := key
      have e6 : H6 l = some (.lst (ns.map V.int)) := b6 _ _ hla e5
      refine ⟨l, _, _, rfl, rfl, e6, ?_, ?_⟩
      · rw [List.length_map]
        exact small1000 (by omega)
      · have bb : But a H H6 := ((((b1.trans b2).trans b3).trans b4).trans (But.new np)).trans b6
        refine ⟨_, _, ns ++ [c], rfl, fun b' o nb e => ?_, (hh6.put hla).le (by omega), ?_, ?_, ?_⟩
        · rw [upd_ne (ne_of_none e nl)]
          exact bb _ _ nb e
        · rw [upd_same, List.map_append]
          rfl
        · rw [List.length_append, hlen]
          rfl
        · intro x hx
          rcases List.mem_append.mp hx with hx | hx
          · exact hb x hx
          · rw [List.mem_singleton.mp hx]
            exact ⟨c0, c1⟩
    · rintro σ H1 ⟨y3, y4, ns, rfl, b1, hh1, hl1, hlen, hb⟩
      have hlen : ns.length = many := by omega
      have hh1 : HandAt H1 a (n + 12) := hh1.le (by omega)
      refine ⟨fun σ H' => ∃ y3 y4, ∃ ns : List Int, ∃ y : Int, σ = [some (.ref a), some (.int (many : Int)), some (.ref l), y3, y4] ∧ But a H H' ∧ HandAt H' a (n + 13) ∧ H' l = some (.lst (ns.map V.int)) ∧ ns.length = many ∧ (∀ x ∈ ns, 0 ≤ x ∧ x < 2 ^ 50) ∧ y ∈ ns ∧ 0 < y, ?_, ?_⟩
      · refine ⟨.ref l, rfl, l, ns, rfl, SqL.of hl1, by omega, fun m hm hmax => ⟨rfl, _, rfl, iteD (fun c => ?_) (fun c => ?_)⟩⟩
        · refine ⟨.ref l, rfl, .ref a, rfl, .int (many : Int), rfl, a, _, _, rfl, by omega, by omega, hh1, by omega, fun H2 r b2 hh2 r0 r1 => ?_⟩
          have e2 := b2 _ _ hla hl1
          refine ⟨l, _, r, _, rfl, rfl, e2, ixN_of r0 (by rw [List.length_map]; omega), ?_⟩
          have hj : r.toNat < ns.length := by omega
          refine ⟨_, _, ns.set r.toNat 1, 1, rfl, fun b' o nb e => ?_, hh2.put hla, ?_, ?_, fun x hx => ?_, ?_, by decide⟩
          · rw [upd_ne (ne_of_none e nl)]
            exact b2 _ _ nb (b1 _ _ nb e)
          · rw [upd_same, List.map_set]
          · rw [List.length_set]
            exact hlen
          · rcases List.mem_or_eq_of_mem_set hx with hx | rfl
            · exact hb x hx
            · exact ⟨by decide, by decide⟩
          · exact List.mem_iff_getElem.mpr ⟨r.toNat, by rw [List.length_set]; exact hj, List.getElem_set_self _⟩
        · have hm0 : m ≠ 0 := fun z => c (by rw [z])
          exact ⟨_, _, ns, m, rfl, b1, hh1.le (by omega), hl1, hlen, hb, hm, by have := hb m hm; omega⟩
      · rintro σ H2 ⟨y3, y4, ns, y, rfl, b2, hh2, hl2, hlen, hb, hy, py⟩
        refine ⟨.ref l, rfl, l, ns, y, rfl, hl2, hb, by omega, hy, py, fun H3 v ms sm hv => ?_⟩
        rw [hlen] at hv
        obtain ⟨g, sd, m, e, z1, z2, z3, z4⟩ := hh2
        exact q _ _ ms (b2.trans (But.of sm)) ⟨g, sd, m, sm _ _ e, z1, z2, z3, by omega⟩ hv
theorem ok_regs {f : Addr} {fd : FuncData} (F : Fun K "_law_registers" "_law_registers" s_L_registers f fd) (gF : mg "_law_registers" = some (.ref f)) (b : Binds K fd ["_law_hand_here"] []) (B : Bl mg) (c_L_figure : Cal P w K mg base 3 "_law_figure" spFigure) : Cal P w K mg base 4 "_law_registers" (spRegs K) := by
  refine ⟨f, fd, _, F.ok sc_L_registers (fun vs H Q E h => ?_) (fun cdv A outer s H vs Q E hr h => ?_), gF, F.kp, b⟩
  · obtain ⟨_, _, rfl, _⟩ := h
    rfl
  · obtain ⟨a, n, rfl, hh, hn, q⟩ := h
    refine ⟨_, (pss_one (ps_ret (pe_tupleOf (by rfl) B.tuple (pe_lc (own := [("_law_turn", 1)]) rfl sc_L_registers.nd (pi_range1 rfl B.range (pa_cons pe_int pa_nil)) (blkOk_by (N := N_L_registers) (sc := defScope s_L_registers) (by decide +kernel)) (fun _ _ _ _ _ => pg_name (i := 1) sc_L_registers.nd rfl (.inl rfl)) (fun _ _ _ _ _ => pts_nil) (fun _ _ _ _ _ => pe_c c_L_figure hr (by omega) (by rfl) (pa_cons (pv 0) pa_nil)))))), ?_⟩
    refine ⟨4, rfl, by decide, by decide, fun D nD => lc_range (n := (4 : Int).toNat) (fun i H' => ∃ rs : List Int, But a H H' ∧ HandAt H' a (n + 3 * i) ∧ H' D = some (.lst (rs.map V.int)) ∧ rs.length = i ∧ ∀ x ∈ rs, -1000 ≤ x ∧ x ≤ 1000) ⟨[], But.new nD, hh.new nD, upd_same, rfl, fun x h => by cases h⟩ ?_ ?_⟩
    · rintro i H1 hi ⟨rs, b1, hh1, hD, hlen, hb⟩
      have hi4 : i < 4 := hi
      have hDa := hh.ne nD
      refine ⟨rfl, tYes_in ?_⟩
      refine ⟨.ref a, rfl, a, _, rfl, hh1, by omega, fun H2 c b2 hh2 c0 c1 => ⟨_, b2 _ _ hDa hD, ?_, ?_⟩⟩
      · rw [List.length_map]
        exact small1000 (by omega)
      · refine ⟨rs ++ [c], fun b' o nb e => ?_, (hh2.put hDa).le (by omega), ?_, ?_, ?_⟩
        · rw [upd_ne (ne_of_none e nD)]
          exact b2 _ _ nb (b1 _ _ nb e)
        · rw [upd_same, List.map_append]
          rfl
        · rw [List.length_append, hlen]
          rfl
        · intro x hx
          rcases List.mem_append.mp hx with hx | hx
          · exact hb x hx
          · rw [List.mem_singleton.mp hx]
            exact ⟨c0, c1⟩
    · rintro H1 ⟨rs, b1, hh1, hD, hlen, hb⟩
      refine .inl ⟨D, _, rfl, SqL.of hD, fun t nt => ?_⟩
      exact q _ _ rs (b1.trans (But.new nt)) (hh1.new nt) ⟨t, rfl, SqT.of upd_same, hlen, hb⟩
end
end NG

namespace NG
open PySem PySem.Spec PyProof.Rows L2
def sz : Ex → Int
  | .fig _ => 1
  | .reg _ => 1
  | .share _ => 1
  | .two _ a b => 1 + (sz a + sz b)
  | .times _ a => 1 + sz a
  | .by _ a => 1 + sz a
  | .when _ _ a b => 1 + (sz a + sz b)
  | .whr _ _ a b => 1 + (sz a + sz b)
theorem sz_kids (e : Ex) : 1 + (e.kids.map sz).sum = sz e := by
  cases e <;> simp [Ex.kids, sz]
def dpI (e : Ex) : Int := (e.dep : Int)
theorem dp_kids {e : Ex} {m : Int} (hm : m ∈ 0 :: e.kids.map dpI) (hx : ∀ y ∈ 0 :: e.kids.map dpI, y ≤ m) : 1 + m = dpI e := by
  have two : ∀ a b : Ex, e.kids = [a, b] → e.dep = max a.dep b.dep + 1 → 1 + m = dpI e := fun a b hk hd => by
    rw [hk] at hm hx
    have h1 := hx (dpI a) (by simp)
    have h2 := hx (dpI b) (by simp)
    have hm : m = 0 ∨ m = dpI a ∨ m = dpI b := by simpa using hm
    unfold dpI at *
    rw [hd]
    have := dep_pos a
    omega
  have one : ∀ a : Ex, e.kids = [a] → e.dep = a.dep + 1 → 1 + m = dpI e := fun a hk hd => by
    rw [hk] at hm hx
    have h1 := hx (dpI a) (by simp)
    have hm : m = 0 ∨ m = dpI a := by simpa using hm
    unfold dpI at *
    rw [hd]
    have := dep_pos a
    omega
  have none : e.kids = [] → e.dep = 1 → 1 + m = dpI e := fun hk hd => by
    rw [hk] at hm
    have hm : m = 0 := by simpa using hm
    unfold dpI
    rw [hd, hm]
    rfl
  cases e with
  | fig _ => exact none rfl rfl
  | reg _ => exact none rfl rfl
  | share _ => exact none rfl rfl
  | two w a b => exact two a b rfl rfl
  | times f a => exact one a rfl rfl
  | «by» i a => exact one a rfl rfl
  | when i c a b => exact two a b rfl rfl
  | whr i c a b => exact two a b rfl rfl
def spKids (K : PySem.W.Frag) : Sp := fun vs H Q _ => ∃ (v : V) (e : Ex), vs = [v] ∧ ExAt K H e v ∧ ∀ H' l us, Same H H' → H' l = some (.lst us) → RowsAt K H' us e.kids → Q (.ref l) H'
def spMeas (K : PySem.W.Frag) (f : Ex → Int) (n : Nat) : Sp := fun vs H Q _ => ∃ (v : V) (e : Ex), vs = [v] ∧ ExAt K H e v ∧ e.dep ≤ n ∧ ∀ H', Same H H' → Q (.int (f e)) H'
theorem kids_len (e : Ex) : e.kids.length ≤ 2 := by cases e <;> simp [Ex.kids]
section
variable {P : Program} {w : World} {K : PySem.W.Frag} {mg : Str → Option Value} {base : Heap}
theorem ok_kids {f : Addr} {fd : FuncData} (F : Fun K "_law_parts" "_law_parts" s_L_parts f fd) (gF : mg "_law_parts" = some (.ref f)) (b : Binds K fd ["_law_expression_here"] []) (B : Bl mg) : Cal P w K mg base 1 "_law_parts" (spKids K) := by
  refine ⟨f, fd, _, F.ok sc_L_parts (fun vs H Q E h => ?_) (fun cdv A outer s H vs Q E hr h => ?_), gF, F.kp, b⟩
  · obtain ⟨_, _, rfl, _⟩ := h
    rfl
  · obtain ⟨v, e, rfl, he, q⟩ := h
    refine ⟨_, (pss_one (ps_ret (pe_lc (own := [("_law_part", 1)]) rfl sc_L_parts.nd (pi_tup (pe_slice sl_tup (pv 0) (po_some pe_int) po_none)) (blkOk_by (N := N_L_parts) (sc := defScope s_L_parts) (by decide +kernel)) (fun _ _ _ _ _ => pg_name (i := 1) sc_L_parts.nd rfl (.inl rfl)) (fun _ _ _ _ _ => pts_one (pt_val (pe_callB (isiK K) (by rfl) B.isinstance (by decide +kernel) (pa_cons (pv 1) (pa_cons (pe_bltn (v := .ty "tuple") (by rfl) B.tuple (by decide +kernel) rfl) pa_nil))))) (fun _ _ _ _ _ => pv 1)))), ?_⟩
    obtain ⟨p, xs, rfl, hp, hl0, hits⟩ := he.rst
    refine ⟨.ref p, rfl, 1, rfl, p, _, rfl, hp, cut1w hl0, fun c nc => ?_⟩
    rw [cut1]
    have smc := same_new (o := .tup xs) nc
    have hc : (upd H c (.tup xs)) c = some (.tup xs) := upd_same
    have hits1 := hits.imp smc
    generalize upd H c (.tup xs) = H1 at hc hits1 smc
    refine ⟨c, rfl, ⟨_, SqT.of hc⟩, fun D nD => lc_tup (xs := xs) (fun i H' => Same H1 H' ∧ ∃ us, H' D = some (.lst us) ∧ RowsAt K H' us (kidsI (e.rest.take i))) ⟨same_new nD, [], upd_same, trivial⟩ (fun i H' _ h => SqT.of (h.1 _ _ hc)) ?_ ?_⟩
    · rintro i x H2 hx ⟨sm2, us, hD, hus⟩
      obtain ⟨tm, htm, hit⟩ := (hits1.imp sm2).get hx
      obtain ⟨ty, tyx, kk⟩ := isi_item hit
      refine ⟨rfl, x, rfl, _, _, _, _, tm.isK, rfl, .ty _, tyx, kk, _, rfl, ?_⟩
      cases tm with
      | s z =>
        refine iteFF rfl ⟨sm2, us, hD, ?_⟩
        rw [kidsI_snoc htm]
        show RowsAt K H2 us (kidsI (List.take i e.rest) ++ [])
        rw [List.append_nil]
        exact hus
      | i z =>
        refine iteFF rfl ⟨sm2, us, hD, ?_⟩
        rw [kidsI_snoc htm]
        show RowsAt K H2 us (kidsI (List.take i e.rest) ++ [])
        rw [List.append_nil]
        exact hus
      | k k =>
        have hlen := hus.len
        have hkl : us.length ≤ 4 := by
          rw [hlen]
          have h1 := rest_len e
          have h2 : ∀ l : List Itm, (kidsI l).length ≤ l.length := fun l => by
            induction l with
            | nil => exact Nat.le_refl _
            | cons t r ih => cases t <;> simp only [kidsI, List.length_cons] <;> omega
          have h3 := h2 (e.rest.take i)
          rw [List.length_take] at h3
          omega
        refine iteTT rfl ⟨x, rfl, us, hD, small1000 (by omega), fun b' o eb => ?_, us ++ [x], upd_same, ?_⟩
        · rw [upd_ne (ne_of_none eb nD)]
          exact sm2 _ _ eb
        · rw [kidsI_snoc htm]
          exact RowsAt.snoc (ExAt.imp (e := k) (fun _ _ q => put_sqt hD q) hit) (hus.imp fun _ _ q => put_sqt hD q)
    · rintro H2 ⟨sm2, us, hD, hus⟩
      rw [hits.len, List.take_length, kidsI_rest] at hus
      exact q _ D us (smc.trans sm2) hD hus
theorem ok_size {f : Addr} {fd : FuncData} (F : Fun K "_law_size" "_law_size" s_L_size f fd) (gF : mg "_law_size" = some (.ref f)) (b : Binds K fd ["_law_expression_here"] []) (B : Bl mg) (c_L_parts : Cal P w K mg base 1 "_law_parts" (spKids K)) : ∀ n, Cal P w K mg base (n + 2) "_law_size" (spMeas K sz n) := by
  intro n
  induction n with
  | zero =>
    refine cal_never F gF b fun vs H Q E h => ?_
    obtain ⟨_, e, _, _, hd, _⟩ := h
    cases e <;> (unfold Ex.dep at hd; omega)
  | succ n c_L_size =>
  refine ⟨f, fd, _, F.ok sc_L_size (fun vs H Q E h => ?_) (fun cdv A outer s H vs Q E hr h => ?_), gF, F.kp, b⟩
  · obtain ⟨_, _, rfl, _⟩ := h
    rfl
  · obtain ⟨v, e, rfl, he, hd, q⟩ := h
    refine ⟨_, (pss_one (ps_ret (pe_op op_add pe_int (pe_callB (cr_sum rfl) (by rfl) B.sum (by decide +kernel) (pa_cons (pe_lc (own := [("_law_part", 1)]) rfl sc_L_size.nd (pi_list (pe_c c_L_parts hr (by omega) (by rfl) (pa_cons (pv 0) pa_nil))) (blkOk_by (N := N_L_size) (sc := defScope s_L_size) (by decide +kernel)) (fun _ _ _ _ _ => pg_name (i := 1) sc_L_size.nd rfl (.inl rfl)) (fun _ _ _ _ _ => pts_nil) (fun _ _ _ _ _ => pe_c c_L_size hr (by omega) (by rfl) (pa_cons (pv 1) pa_nil))) pa_nil))))), ?_⟩
    refine ⟨v, rfl, v, e, rfl, he, fun H1 l us sm1 hl1 rows1 => ⟨l, rfl, ⟨_, SqL.of hl1⟩, fun D nD => lc_list (xs := us) (fun i H' => Same H1 H' ∧ H' D = some (.lst (((e.kids.take i).map sz).map V.int))) ⟨same_new nD, upd_same⟩ (fun i H' _ h => SqL.of (h.1 _ _ hl1)) ?_ ?_⟩⟩
    · rintro i x H2 hx ⟨sm2, hD⟩
      obtain ⟨k, hk, xk⟩ := rows1.get' hx
      have hkd := kids_dep e k (List.mem_of_getElem? hk)
      refine ⟨rfl, tYes_in ?_⟩
      refine ⟨x, rfl, x, k, rfl, xk.same sm2, by omega, fun H3 sm3 => ?_⟩
      have hD3 := sm3 _ _ hD
      have hkl := kids_len e
      refine ⟨_, hD3, ?_, fun b' o eb => ?_, ?_⟩
      · rw [List.length_map, List.length_map, List.length_take]
        exact small1000 (by omega)
      · rw [upd_ne (ne_of_none eb nD)]
        exact sm3 _ _ (sm2 _ _ eb)
      · rw [upd_same, List.take_add_one, hk, List.map_append, List.map_append]
        rfl
    · rintro H2 ⟨sm2, hD⟩
      rw [rows1.len, List.take_length] at hD
      refine ⟨D, e.kids.map sz, rfl, SqL.of hD, _, _, rfl, rfl, ?_⟩
      have q1 := q _ (sm1.trans sm2)
      rw [← sz_kids e] at q1
      exact q1
theorem ok_deep {f : Addr} {fd : FuncData} (F : Fun K "_law_deep" "_law_deep" s_L_deep f fd) (gF : mg "_law_deep" = some (.ref f)) (b : Binds K fd ["_law_expression_here"] []) (B : Bl mg) (c_L_parts : Cal P w K mg base 1 "_law_parts" (spKids K)) : ∀ n, Cal P w K mg base (n + 2) "_law_deep" (spMeas K dpI n) := by
  intro n
  induction n with
  | zero =>
    refine cal_never F gF b fun vs H Q E h => ?_
    obtain ⟨_, e, _, _, hd, _⟩ := h
    cases e <;> (unfold Ex.dep at hd; omega)
  | succ n c_L_deep =>
  refine ⟨f, fd, _, F.ok sc_L_deep (fun vs H Q E h => ?_) (fun cdv A outer s H vs Q E hr h => ?_), gF, F.kp, b⟩
  · obtain ⟨_, _, rfl, _⟩ := h
    rfl
  · obtain ⟨v, e, rfl, he, hd, q⟩ := h
    refine ⟨_, (pss_one (ps_ret (pe_op op_add pe_int (pe_callB (cr_max rfl) (by rfl) B.max (by decide +kernel) (pa_cons (pe_op op_cat (pe_lst (pa_cons pe_int pa_nil)) (pe_lc (own := [("_law_part", 1)]) rfl sc_L_deep.nd (pi_list (pe_c c_L_parts hr (by omega) (by rfl) (pa_cons (pv 0) pa_nil))) (blkOk_by (N := N_L_deep) (sc := defScope s_L_deep) (by decide +kernel)) (fun _ _ _ _ _ => pg_name (i := 1) sc_L_deep.nd rfl (.inl rfl)) (fun _ _ _ _ _ => pts_nil) (fun _ _ _ _ _ => pe_c c_L_deep hr (by omega) (by rfl) (pa_cons (pv 1) pa_nil)))) pa_nil))))), ?_⟩
    refine ⟨(by show 1 ≤ sizeLine; decide), fun z nz => ?_⟩
    have sz0 := same_new (o := .lst [.int 0]) nz
    have hz : (upd H z (.lst [.int 0])) z = some (.lst [.int 0]) := upd_same
    have he0 := he.same sz0
    generalize upd H z (.lst [.int 0]) = H0 at sz0 hz he0
    refine ⟨v, rfl, v, e, rfl, he0, fun H1 l us sm1 hl1 rows1 => ⟨l, rfl, ⟨_, SqL.of hl1⟩, fun D nD => lc_list (xs := us) (fun i H' => Same H1 H' ∧ H' D = some (.lst (((e.kids.take i).map dpI).map V.int))) ⟨same_new nD, upd_same⟩ (fun i H' _ h => SqL.of (h.1 _ _ hl1)) ?_ ?_⟩⟩
    · rintro i x H2 hx ⟨sm2, hD⟩
      obtain ⟨k, hk, xk⟩ := rows1.get' hx
      have hkd := kids_dep e k (List.mem_of_getElem? hk)
      refine ⟨rfl, tYes_in ?_⟩
      refine ⟨x, rfl, x, k, rfl, xk.same sm2, by omega, fun H3 sm3 => ?_⟩
      have hD3 := sm3 _ _ hD
      have hkl := kids_len e
      refine ⟨_, hD3, ?_, fun b' o eb => ?_, ?_⟩
      · rw [List.length_map, List.length_map, List.length_take]
        exact small1000 (by omega)
      · rw [upd_ne (ne_of_none eb nD)]
        exact sm3 _ _ (sm2 _ _ eb)
      · rw [upd_same, List.take_add_one, hk, List.map_append, List.map_append]
        rfl
    · rintro H2 ⟨sm2, hD⟩
      rw [rows1.len, List.take_length] at hD
      have sm02 := sm1.trans sm2
      have hkl := kids_len e
      refine ⟨z, D, [.int 0], _, rfl, rfl, sm02 _ _ hz, hD, Nat.le_of_lt (small1000 (by rw [List.length_map, List.length_map]; show 1 + _ ≤ 1000; omega)), fun l3 n3 => ?_⟩
      refine ⟨l3, 0 :: e.kids.map dpI, rfl, SqL.of upd_same, (by simp), fun m hm hx => ⟨_, _, rfl, rfl, ?_⟩⟩
      have q1 := q _ (sz0.trans (sm02.trans (same_new (o := .lst ([.int 0] ++ (e.kids.map dpI).map V.int)) n3)))
      rw [← dp_kids hm hx] at q1
      exact q1
end
end NG

namespace NG
open PySem PySem.Spec PyProof.Rows L2
section
variable {P : Program} {w : World} {K : PySem.W.Frag} {mg : Str → Option Value} {base : Heap}
theorem ok_byword {f : Addr} {fd : FuncData} (F : Fun K "_law_by_word" "_law_by_word" s_L_by_word f fd) (gF : mg "_law_by_word" = some (.ref f)) (b : Binds K fd ["_law_expression_here", "_law_leaf_here"] []) (B : Bl mg) : Cal P w K mg base 1 "_law_by_word" (spByWord K) := by
  refine ⟨f, fd, _, F.ok sc_L_by_word (fun vs H Q E h => ?_) (fun cdv A outer s H vs Q E hr h => ?_), gF, F.kp, b⟩
  · obtain ⟨_, _, _, _, _, rfl, _⟩ := h
    rfl
  · obtain ⟨v, lv, e, lf, many, rfl, he, hlf, ho, olf, dlf, q⟩ := h
    refine ⟨_, (pss_cons (ps_par (i := 2) (j := 3) rfl sc_L_by_word.nd rfl rfl (by decide) rfl rfl (pa_cons (pe_ix ix_tup (pv 0) pe_int (fun _ _ => rfl)) (pa_cons (pe_lst pa_nil) pa_nil)) (by rfl)) (pss_cons (ps_par (i := 4) (j := 5) rfl sc_L_by_word.nd rfl rfl (by decide) rfl rfl (pa_cons (pe_ix ix_tup (pv 0) (pe_un un_neg pe_int) (fun _ _ => rfl)) (pa_cons (pe_ix ix_tup (pv 0) (pe_un un_neg pe_int) (fun _ _ => rfl)) pa_nil)) (by rfl)) (pss_cons (ps_if (pt_cmpR op_in_seq (pv 2) (pe_tup (pa_cons pe_str (pa_cons pe_str (pa_cons pe_str pa_nil)))) (by rfl)) (pss_one (ps_expr (pe_bm PySem.F.plainAttrs_list PySem.F.slot_list_extend PySem.F.type_list_extend mt_extend (pv 3) (pa_cons (pe_op op_rep (pe_lst (pa_cons (pe_tup (pa_cons (pv 2) (pa_cons (pv 5) (pa_cons (pv 4) pa_nil)))) pa_nil)) pe_int) pa_nil)))) pss_nil) (pss_cons (ps_if (pt_cmpR op_eq (pv 2) pe_str (nomark _)) (pss_one (ps_expr (pe_bm PySem.F.plainAttrs_list PySem.F.slot_list_append PySem.F.type_list_append mt_append (pv 3) (pa_cons (pe_tup (pa_cons (pv 2) (pa_cons (pe_tup (pa_cons pe_str (pa_cons (pv 4) (pa_cons (pv 5) pa_nil)))) (pa_cons (pe_tup (pa_cons pe_str (pa_cons (pv 4) (pa_cons (pv 5) pa_nil)))) pa_nil)))) pa_nil)))) pss_nil) (pss_cons (ps_if (pt_cmpR op_eq (pv 2) pe_str (nomark _)) (pss_one (ps_expr (pe_bm PySem.F.plainAttrs_list PySem.F.slot_list_extend PySem.F.type_list_extend mt_extend (pv 3) (pa_cons (pe_lst (pa_cons (pe_tup (pa_cons pe_str (pa_cons (pv 4) (pa_cons (pe_tup (pa_cons pe_str (pa_cons (pe_un un_neg pe_int) (pa_cons (pv 5) pa_nil)))) pa_nil)))) (pa_cons (pe_tup (pa_cons pe_str (pa_cons (pe_un un_neg pe_int) (pa_cons (pe_tup (pa_cons (pv 2) (pa_cons (pv 5) (pa_cons (pv 4) pa_nil)))) pa_nil)))) pa_nil))) pa_nil)))) pss_nil) (pss_cons (ps_if (pt_cmpR op_eq (pv 2) pe_str (nomark _)) (pss_one (ps_expr (pe_bm PySem.F.plainAttrs_list PySem.F.slot_list_append PySem.F.type_list_append mt_append (pv 3) (pa_cons (pe_tup (pa_cons pe_str (pa_cons (pe_un un_neg pe_int) (pa_cons (pe_tup (pa_cons pe_str (pa_cons (pe_tup (pa_cons pe_str (pa_cons (pe_un un_neg pe_int) (pa_cons (pv 4) pa_nil)))) (pa_cons (pe_tup (pa_cons pe_str (pa_cons (pe_un un_neg pe_int) (pa_cons (pv 5) pa_nil)))) pa_nil)))) pa_nil)))) pa_nil)))) pss_nil) (pss_cons (ps_if (pt_cmpR op_eq (pv 2) pe_str (nomark _)) (pss_one (ps_expr (pe_bm PySem.F.plainAttrs_list PySem.F.slot_list_append PySem.F.type_list_append mt_append (pv 3) (pa_cons (pe_tup (pa_cons pe_str (pa_cons (pv 4) (pa_cons (pe_tup (pa_cons (pv 2) (pa_cons (pe_tup (pa_cons pe_str (pa_cons pe_int pa_nil))) (pa_cons (pe_tup (pa_cons pe_str (pa_cons (pv 5) (pa_cons (pv 4) pa_nil)))) pa_nil)))) pa_nil)))) pa_nil)))) pss_nil) (C8.pss_cut (ps_if (PW.pt (pw_and (pt_cmpR op_eq (pv 2) pe_str (nomark _)) (pw_and1 (pt_cmpR op_gt (pv 4) (pe_un un_neg pe_int) (nomark _))))) (pss_one (ps_expr (pe_bm PySem.F.plainAttrs_list PySem.F.slot_list_append PySem.F.type_list_append mt_append (pv 3) (pa_cons (pe_tup (pa_cons pe_str (pa_cons (pe_tup (pa_cons (pv 2) (pa_cons (pe_op op_sub (pv 4) pe_int) (pa_cons (pv 5) pa_nil)))) (pa_cons (pv 5) pa_nil)))) pa_nil)))) pss_nil) (pss_cons (ps_if (PW.pt (pw_and (pt_cmpR op_in_seq (pv 2) (pe_tup (pa_cons pe_str (pa_cons pe_str pa_nil))) (by rfl)) (pw_and1 (pt_cmpR op_in_seq (pe_ix ix_tup (pv 5) pe_int (fun _ _ => rfl)) (pe_tup (pa_cons pe_str (pa_cons pe_str pa_nil))) (by rfl))))) (pss_one (ps_expr (pe_bm PySem.F.plainAttrs_list PySem.F.slot_list_extend PySem.F.type_list_extend mt_extend (pv 3) (pa_cons (pe_op op_rep (pe_lst (pa_cons (pe_tup (pa_cons (pe_ix ix_tup (pv 5) pe_int (fun _ _ => rfl)) (pa_cons (pe_tup (pa_cons (pv 2) (pa_cons (pv 4) (pa_cons (pe_ix ix_tup (pv 5) pe_int (fun _ _ => rfl)) pa_nil)))) (pa_cons (pe_tup (pa_cons (pv 2) (pa_cons (pv 4) (pa_cons (pe_ix ix_tup (pv 5) pe_int (fun _ _ => rfl)) pa_nil)))) pa_nil)))) pa_nil)) pe_int) pa_nil)))) pss_nil) (pss_cons (ps_if (pt_cmpR op_in_seq (pv 2) (pe_tup (pa_cons pe_str (pa_cons pe_str pa_nil))) (by rfl)) (pss_cons (ps_asg (pe_slice sl_tup (pv 0) (po_some pe_int) (po_some pe_int)) (pg_tup rfl (pgs_cons (pg_name (i := 6) sc_L_by_word.nd rfl (.inl rfl)) (pgs_cons (pg_name (i := 7) sc_L_by_word.nd rfl (.inl rfl)) pgs_nil)))) (pss_cons (ps_expr (pe_bm PySem.F.plainAttrs_list PySem.F.slot_list_append PySem.F.type_list_append mt_append (pv 3) (pa_cons (pe_tup (pa_cons (pv 2) (pa_cons (pv 6) (pa_cons (pv 7) (pa_cons (pe_tup (pa_cons (pv 2) (pa_cons (pv 6) (pa_cons (pv 7) (pa_cons (pv 4) (pa_cons (pv 1) pa_nil)))))) (pa_cons (pv 5) pa_nil)))))) pa_nil))) (pss_one (ps_expr (pe_bm PySem.F.plainAttrs_list PySem.F.slot_list_append PySem.F.type_list_append mt_append (pv 3) (pa_cons (pe_tup (pa_cons (pv 2) (pa_cons (pv 6) (pa_cons (pv 7) (pa_cons (pv 4) (pa_cons (pe_tup (pa_cons (pv 2) (pa_cons (pv 6) (pa_cons (pv 7) (pa_cons (pv 1) (pa_cons (pv 5) pa_nil)))))) pa_nil)))))) pa_nil)))))) pss_nil) (pss_one (ps_ret (pv 3))))))))))))), ?_⟩
    have smA := Same.refl H
    cases e with
    | fig c =>
      obtain ⟨p, rfl, hp⟩ := he
      refine ⟨.ref p, rfl, p, _, 0, _, rfl, rfl, hp, rfl, (by show 0 ≤ sizeLine; decide), fun fl nfl => ⟨_, _, rfl, ?_⟩⟩
      have n_fl := nfl
      have s1 := same_new (o := HO.lst []) n_fl
      have smN := smA.trans s1
      have hlf := hlf.same s1
      have hp := same_sqt s1 hp
      have hF : (upd H fl (HO.lst [])) fl = some (HO.lst []) := upd_same
      clear s1
      generalize upd H fl (HO.lst []) = H101 at smN hlf hp hF
      have smA := smN
      clear smN
      refine ⟨.ref p, rfl, 2, rfl, p, _, -2, _, rfl, rfl, hp, rfl, .ref p, rfl, 1, rfl, p, _, -1, _, rfl, rfl, hp, rfl, _, _, rfl, ?_⟩
      refine ⟨_, rfl, (by show 3 ≤ sizeLine; decide), fun w1 n_w1 => ⟨w1, _, rfl, .inr (SqT.of upd_same), rfl, rfl, _, rfl, iteFF rfl ?_⟩⟩
      have s1 := same_new (o := HO.tup [.str "sum", .str "least", .str "most"]) n_w1
      have smN := smA.trans s1
      have hlf := hlf.same s1
      have hp := same_sqt s1 hp
      have hF := s1 _ _ hF
      clear s1
      generalize upd H101 w1 (HO.tup [.str "sum", .str "least", .str "most"]) = H102 at smN hlf hp hF
      have smA := smN
      clear smN
      refine ⟨_, rfl, rfl, _, rfl, iteFF rfl ?_⟩
      refine ⟨_, rfl, rfl, _, rfl, iteFF rfl ?_⟩
      refine ⟨_, rfl, rfl, _, rfl, iteFF rfl ?_⟩
      refine ⟨_, rfl, rfl, _, rfl, iteFF rfl ?_⟩
      refine ⟨fun σ H' => σ = [some (.ref p), some lv, some (.str "fig"), some (.ref fl), some (.str "fig"), some (.int c), none, none] ∧ H' = H102, ⟨_, rfl, rfl, _, rfl, iteFF rfl (iteFF rfl ⟨rfl, rfl⟩)⟩, ?_⟩
      rintro σ H103 ⟨rfl, rfl⟩
      refine ⟨_, rfl, (by show 2 ≤ sizeLine; decide), fun w2 n_w2 => ⟨w2, _, rfl, .inr (SqT.of upd_same), rfl, rfl, _, rfl, iteFF rfl (iteFF rfl ?_)⟩⟩
      have s1 := same_new (o := HO.tup [.str "times", .str "by"]) n_w2
      have smN := smA.trans s1
      have hlf := hlf.same s1
      have hp := same_sqt s1 hp
      have hF := s1 _ _ hF
      clear s1
      generalize upd H103 w2 (HO.tup [.str "times", .str "by"]) = H104 at smN hlf hp hF
      have smA := smN
      clear smN
      refine ⟨_, rfl, (by show 2 ≤ sizeLine; decide), fun w3 n_w3 => ⟨w3, _, rfl, .inr (SqT.of upd_same), rfl, rfl, _, rfl, iteFF rfl ?_⟩⟩
      have s1 := same_new (o := HO.tup [.str "when", .str "where"]) n_w3
      have smN := smA.trans s1
      have hlf := hlf.same s1
      have hp := same_sqt s1 hp
      have hF := s1 _ _ hF
      clear s1
      generalize upd H104 w3 (HO.tup [.str "when", .str "where"]) = H105 at smN hlf hp hF
      have smA := smN
      clear smN
      exact ⟨.ref fl, rfl, q _ fl _ [] smA nfl hF trivial (by simp) fun e' h' => by cases h'⟩
    | reg c =>
      obtain ⟨p, rfl, hp⟩ := he
      refine ⟨.ref p, rfl, p, _, 0, _, rfl, rfl, hp, rfl, (by show 0 ≤ sizeLine; decide), fun fl nfl => ⟨_, _, rfl, ?_⟩⟩
      have n_fl := nfl
      have s1 := same_new (o := HO.lst []) n_fl
      have smN := smA.trans s1
      have hlf := hlf.same s1
      have hp := same_sqt s1 hp
      have hF : (upd H fl (HO.lst [])) fl = some (HO.lst []) := upd_same
      clear s1
      generalize upd H fl (HO.lst []) = H106 at smN hlf hp hF
      have smA := smN
      clear smN
      refine ⟨.ref p, rfl, 2, rfl, p, _, -2, _, rfl, rfl, hp, rfl, .ref p, rfl, 1, rfl, p, _, -1, _, rfl, rfl, hp, rfl, _, _, rfl, ?_⟩
      refine ⟨_, rfl, (by show 3 ≤ sizeLine; decide), fun w4 n_w4 => ⟨w4, _, rfl, .inr (SqT.of upd_same), rfl, rfl, _, rfl, iteFF rfl ?_⟩⟩
      have s1 := same_new (o := HO.tup [.str "sum", .str "least", .str "most"]) n_w4
      have smN := smA.trans s1
      have hlf := hlf.same s1
      have hp := same_sqt s1 hp
      have hF := s1 _ _ hF
      clear s1
      generalize upd H106 w4 (HO.tup [.str "sum", .str "least", .str "most"]) = H107 at smN hlf hp hF
      have smA := smN
      clear smN
      refine ⟨_, rfl, rfl, _, rfl, iteFF rfl ?_⟩
      refine ⟨_, rfl, rfl, _, rfl, iteFF rfl ?_⟩
      refine ⟨_, rfl, rfl, _, rfl, iteFF rfl ?_⟩
      refine ⟨_, rfl, rfl, _, rfl, iteFF rfl ?_⟩
      refine ⟨fun σ H' => σ = [some (.ref p), some lv, some (.str "reg"), some (.ref fl), some (.str "reg"), some (.int (c : Int)), none, none] ∧ H' = H107, ⟨_, rfl, rfl, _, rfl, iteFF rfl (iteFF rfl ⟨rfl, rfl⟩)⟩, ?_⟩
      rintro σ H108 ⟨rfl, rfl⟩
      refine ⟨_, rfl, (by show 2 ≤ sizeLine; decide), fun w5 n_w5 => ⟨w5, _, rfl, .inr (SqT.of upd_same), rfl, rfl, _, rfl, iteFF rfl (iteFF rfl ?_)⟩⟩
      have s1 := same_new (o := HO.tup [.str "times", .str "by"]) n_w5
      have smN := smA.trans s1
      have hlf := hlf.same s1
      have hp := same_sqt s1 hp
      have hF := s1 _ _ hF
      clear s1
      generalize upd H108 w5 (HO.tup [.str "times", .str "by"]) = H109 at smN hlf hp hF
      have smA := smN
      clear smN
      refine ⟨_, rfl, (by show 2 ≤ sizeLine; decide), fun w6 n_w6 => ⟨w6, _, rfl, .inr (SqT.of upd_same), rfl, rfl, _, rfl, iteFF rfl ?_⟩⟩
      have s1 := same_new (o := HO.tup [.str "when", .str "where"]) n_w6
      have smN := smA.trans s1
      have hlf := hlf.same s1
      have hp := same_sqt s1 hp
      have hF := s1 _ _ hF
      clear s1
      generalize upd H109 w6 (HO.tup [.str "when", .str "where"]) = H110 at smN hlf hp hF
      have smA := smN
      clear smN
      exact ⟨.ref fl, rfl, q _ fl _ [] smA nfl hF trivial (by simp) fun e' h' => by cases h'⟩
    | share c =>
      obtain ⟨p, rfl, hp⟩ := he
      refine ⟨.ref p, rfl, p, _, 0, _, rfl, rfl, hp, rfl, (by show 0 ≤ sizeLine; decide), fun fl nfl => ⟨_, _, rfl, ?_⟩⟩
      have n_fl := nfl
      have s1 := same_new (o := HO.lst []) n_fl
      have smN := smA.trans s1
      have hlf := hlf.same s1
      have hp := same_sqt s1 hp
      have hF : (upd H fl (HO.lst [])) fl = some (HO.lst []) := upd_same
      clear s1
      generalize upd H fl (HO.lst []) = H111 at smN hlf hp hF
      have smA := smN
      clear smN
      refine ⟨.ref p, rfl, 2, rfl, p, _, -2, _, rfl, rfl, hp, rfl, .ref p, rfl, 1, rfl, p, _, -1, _, rfl, rfl, hp, rfl, _, _, rfl, ?_⟩
      refine ⟨_, rfl, (by show 3 ≤ sizeLine; decide), fun w7 n_w7 => ⟨w7, _, rfl, .inr (SqT.of upd_same), rfl, rfl, _, rfl, iteFF rfl ?_⟩⟩
      have s1 := same_new (o := HO.tup [.str "sum", .str "least", .str "most"]) n_w7
      have smN := smA.trans s1
      have hlf := hlf.same s1
      have hp := same_sqt s1 hp
      have hF := s1 _ _ hF
      clear s1
      generalize upd H111 w7 (HO.tup [.str "sum", .str "least", .str "most"]) = H112 at smN hlf hp hF
      have smA := smN
      clear smN
      refine ⟨_, rfl, rfl, _, rfl, iteFF rfl ?_⟩
      refine ⟨_, rfl, rfl, _, rfl, iteFF rfl ?_⟩
      refine ⟨_, rfl, rfl, _, rfl, iteFF rfl ?_⟩
      refine ⟨_, rfl, rfl, _, rfl, iteFF rfl ?_⟩
      refine ⟨fun σ H' => σ = [some (.ref p), some lv, some (.str "share"), some (.ref fl), some (.str "share"), some (.int (c : Int)), none, none] ∧ H' = H112, ⟨_, rfl, rfl, _, rfl, iteFF rfl (iteFF rfl ⟨rfl, rfl⟩)⟩, ?_⟩
      rintro σ H113 ⟨rfl, rfl⟩
      refine ⟨_, rfl, (by show 2 ≤ sizeLine; decide), fun w8 n_w8 => ⟨w8, _, rfl, .inr (SqT.of upd_same), rfl, rfl, _, rfl, iteFF rfl (iteFF rfl ?_)⟩⟩
      have s1 := same_new (o := HO.tup [.str "times", .str "by"]) n_w8
      have smN := smA.trans s1
      have hlf := hlf.same s1
      have hp := same_sqt s1 hp
      have hF := s1 _ _ hF
      clear s1
      generalize upd H113 w8 (HO.tup [.str "times", .str "by"]) = H114 at smN hlf hp hF
      have smA := smN
      clear smN
      refine ⟨_, rfl, (by show 2 ≤ sizeLine; decide), fun w9 n_w9 => ⟨w9, _, rfl, .inr (SqT.of upd_same), rfl, rfl, _, rfl, iteFF rfl ?_⟩⟩
      have s1 := same_new (o := HO.tup [.str "when", .str "where"]) n_w9
      have smN := smA.trans s1
      have hlf := hlf.same s1
      have hp := same_sqt s1 hp
      have hF := s1 _ _ hF
      clear s1
      generalize upd H114 w9 (HO.tup [.str "when", .str "where"]) = H115 at smN hlf hp hF
      have smA := smN
      clear smN
      exact ⟨.ref fl, rfl, q _ fl _ [] smA nfl hF trivial (by simp) fun e' h' => by cases h'⟩
    | two w0 a b0 =>
      obtain ⟨p, x, y, rfl, hp, hx, hy⟩ := he
      obtain ⟨oa, ob⟩ := ho
      cases w0 with
      | sum =>
        have hp : SqT K H p [.str "sum", x, y] := hp
        refine ⟨.ref p, rfl, p, _, 0, _, rfl, rfl, hp, rfl, (by show 0 ≤ sizeLine; decide), fun fl nfl => ⟨_, _, rfl, ?_⟩⟩
        have n_fl := nfl
        have s1 := same_new (o := HO.lst []) n_fl
        have smN := smA.trans s1
        have hx := hx.same s1
        have hy := hy.same s1
        have hlf := hlf.same s1
        have hp := same_sqt s1 hp
        have hF : (upd H fl (HO.lst [])) fl = some (HO.lst []) := upd_same
        clear s1
        generalize upd H fl (HO.lst []) = H116 at smN hx hy hlf hp hF
        have smA := smN
        clear smN
        refine ⟨.ref p, rfl, 2, rfl, p, _, -2, _, rfl, rfl, hp, rfl, .ref p, rfl, 1, rfl, p, _, -1, _, rfl, rfl, hp, rfl, _, _, rfl, ?_⟩
        refine ⟨_, rfl, (by show 3 ≤ sizeLine; decide), fun w10 n_w10 => ⟨w10, _, rfl, .inr (SqT.of upd_same), rfl, rfl, _, rfl, iteTT rfl ?_⟩⟩
        have s1 := same_new (o := HO.tup [.str "sum", .str "least", .str "most"]) n_w10
        have smN := smA.trans s1
        have hx := hx.same s1
        have hy := hy.same s1
        have hlf := hlf.same s1
        have hp := same_sqt s1 hp
        have hF := s1 _ _ hF
        clear s1
        generalize upd H116 w10 (HO.tup [.str "sum", .str "least", .str "most"]) = H117 at smN hx hy hlf hp hF
        have smA := smN
        clear smN
        refine ⟨.ref fl, rfl, .inl ⟨rfl, _, SqL.of hF⟩, ?_⟩
        refine ⟨_, rfl, y, rfl, x, rfl, (by show 3 ≤ sizeLine; decide), fun t1 n_t1 => ?_⟩
        have s1 := same_new (o := HO.tup [.str "sum", y, x]) n_t1
        have smN := smA.trans s1
        have hx := hx.same s1
        have hy := hy.same s1
        have hlf := hlf.same s1
        have hp := same_sqt s1 hp
        have hF := s1 _ _ hF
        have f1 : ExAt K (upd H117 t1 (HO.tup [.str "sum", y, x])) (.two .sum b0 a) (.ref t1) := ⟨t1, y, x, rfl, SqT.of upd_same, hy, hx⟩
        clear s1
        generalize upd H117 t1 (HO.tup [.str "sum", y, x]) = H118 at smN hx hy hlf f1 hp hF
        have smA := smN
        clear smN
        refine ⟨(by show 1 ≤ sizeLine; decide), fun l1 n_l1 => ?_⟩
        have s1 := same_new (o := HO.lst [.ref t1]) n_l1
        have smN := smA.trans s1
        have hx := hx.same s1
        have hy := hy.same s1
        have hlf := hlf.same s1
        have f1 := f1.same s1
        have hp := same_sqt s1 hp
        have hF := s1 _ _ hF
        have hl1 : (upd H118 l1 (HO.lst [.ref t1])) l1 = some (HO.lst [.ref t1]) := upd_same
        clear s1
        generalize upd H118 l1 (HO.lst [.ref t1]) = H119 at smN hx hy hlf f1 hp hF hl1
        have smA := smN
        clear smN
        refine ⟨l1, 2, _, rfl, rfl, hl1, by decide, by decide, (by show 1 * 2 ≤ sizeLine; decide), fun l2 n_l2 => ?_⟩
        have s1 := same_new (o := HO.lst (List.replicate (2 : Int).toNat [V.ref t1]).flatten) n_l2
        have smN := smA.trans s1
        have hx := hx.same s1
        have hy := hy.same s1
        have hlf := hlf.same s1
        have f1 := f1.same s1
        have hp := same_sqt s1 hp
        have hF := s1 _ _ hF
        have hl1 := s1 _ _ hl1
        have hl2 : (upd H119 l2 (HO.lst (List.replicate (2 : Int).toNat [V.ref t1]).flatten)) l2 = some (HO.lst [.ref t1, .ref t1]) := upd_same
        clear s1
        generalize upd H119 l2 (HO.lst (List.replicate (2 : Int).toNat [V.ref t1]).flatten) = H120 at smN hx hy hlf f1 hp hF hl1 hl2
        have smA := smN
        clear smN
        refine ⟨fl, l2, _, _, rfl, rfl, hF, hl2, (by show 2 ≤ sizeLine; decide), ?_⟩
        have smN : Same H (upd H120 fl (.lst ([] ++ [V.ref t1, .ref t1]))) := fun b' o eb => by rw [upd_ne (ne_of_none eb nfl)]; exact smA _ _ eb
        have hx := hx.imp fun _ _ q => put_sqt (us' := ([] ++ [V.ref t1, .ref t1])) hF q
        have hy := hy.imp fun _ _ q => put_sqt (us' := ([] ++ [V.ref t1, .ref t1])) hF q
        have hlf := hlf.imp fun _ _ q => put_sqt (us' := ([] ++ [V.ref t1, .ref t1])) hF q
        have f1 := f1.imp fun _ _ q => put_sqt (us' := ([] ++ [V.ref t1, .ref t1])) hF q
        have hp := put_sqt (us' := ([] ++ [V.ref t1, .ref t1])) hF hp
        have hF2 : (upd H120 fl (.lst ([] ++ [V.ref t1, .ref t1]))) fl = some (.lst [V.ref t1, .ref t1]) := upd_same
        clear hl1
        clear hl2
        clear hF
        generalize upd H120 fl (.lst ([] ++ [V.ref t1, .ref t1])) = H121 at smN hF2 hx hy hlf f1 hp
        have smA := smN
        have hF := hF2
        clear smN hF2
        refine ⟨_, rfl, rfl, _, rfl, iteTT rfl ?_⟩
        refine ⟨.ref fl, rfl, .inl ⟨rfl, _, SqL.of hF⟩, ?_⟩
        refine ⟨_, rfl, ?_⟩
        refine ⟨x, rfl, y, rfl, (by show 3 ≤ sizeLine; decide), fun t2 n_t2 => ?_⟩
        have s1 := same_new (o := HO.tup [.str "least", x, y]) n_t2
        have smN := smA.trans s1
        have hx := hx.same s1
        have hy := hy.same s1
        have hlf := hlf.same s1
        have f1 := f1.same s1
        have hp := same_sqt s1 hp
        have hF := s1 _ _ hF
        have f2 : ExAt K (upd H121 t2 (HO.tup [.str "least", x, y])) (.two .least a b0) (.ref t2) := ⟨t2, x, y, rfl, SqT.of upd_same, hx, hy⟩
        clear s1
        generalize upd H121 t2 (HO.tup [.str "least", x, y]) = H122 at smN hx hy hlf f1 f2 hp hF
        have smA := smN
        clear smN
        refine ⟨x, rfl, y, rfl, (by show 3 ≤ sizeLine; decide), fun t3 n_t3 => ?_⟩
        have s1 := same_new (o := HO.tup [.str "most", x, y]) n_t3
        have smN := smA.trans s1
        have hx := hx.same s1
        have hy := hy.same s1
        have hlf := hlf.same s1
        have f1 := f1.same s1
        have f2 := f2.same s1
        have hp := same_sqt s1 hp
        have hF := s1 _ _ hF
        have f3 : ExAt K (upd H122 t3 (HO.tup [.str "most", x, y])) (.two .most a b0) (.ref t3) := ⟨t3, x, y, rfl, SqT.of upd_same, hx, hy⟩
        clear s1
        generalize upd H122 t3 (HO.tup [.str "most", x, y]) = H123 at smN hx hy hlf f1 f2 f3 hp hF
        have smA := smN
        clear smN
        refine ⟨(by show 3 ≤ sizeLine; decide), fun t4 n_t4 => ?_⟩
        have s1 := same_new (o := HO.tup [.str "sum", .ref t2, .ref t3]) n_t4
        have smN := smA.trans s1
        have hx := hx.same s1
        have hy := hy.same s1
        have hlf := hlf.same s1
        have f1 := f1.same s1
        have f2 := f2.same s1
        have f3 := f3.same s1
        have hp := same_sqt s1 hp
        have hF := s1 _ _ hF
        have f4 : ExAt K (upd H123 t4 (HO.tup [.str "sum", .ref t2, .ref t3])) (.two .sum (.two .least a b0) (.two .most a b0)) (.ref t4) := ⟨t4, .ref t2, .ref t3, rfl, SqT.of upd_same, f2, f3⟩
        clear s1
        generalize upd H123 t4 (HO.tup [.str "sum", .ref t2, .ref t3]) = H124 at smN hx hy hlf f1 f2 f3 f4 hp hF
        have smA := smN
        clear smN
        refine ⟨fl, _, _, rfl, rfl, hF, small1000 (by simp), ?_⟩
        have smN : Same H (upd H124 fl (.lst ([V.ref t1, .ref t1] ++ [V.ref t4]))) := fun b' o eb => by rw [upd_ne (ne_of_none eb nfl)]; exact smA _ _ eb
        have hx := hx.imp fun _ _ q => put_sqt (us' := ([V.ref t1, .ref t1] ++ [V.ref t4])) hF q
        have hy := hy.imp fun _ _ q => put_sqt (us' := ([V.ref t1, .ref t1] ++ [V.ref t4])) hF q
        have hlf := hlf.imp fun _ _ q => put_sqt (us' := ([V.ref t1, .ref t1] ++ [V.ref t4])) hF q
        have f1 := f1.imp fun _ _ q => put_sqt (us' := ([V.ref t1, .ref t1] ++ [V.ref t4])) hF q
        have f2 := f2.imp fun _ _ q => put_sqt (us' := ([V.ref t1, .ref t1] ++ [V.ref t4])) hF q
        have f3 := f3.imp fun _ _ q => put_sqt (us' := ([V.ref t1, .ref t1] ++ [V.ref t4])) hF q
        have f4 := f4.imp fun _ _ q => put_sqt (us' := ([V.ref t1, .ref t1] ++ [V.ref t4])) hF q
        have hp := put_sqt (us' := ([V.ref t1, .ref t1] ++ [V.ref t4])) hF hp
        have hF2 : (upd H124 fl (.lst ([V.ref t1, .ref t1] ++ [V.ref t4]))) fl = some (.lst [V.ref t1, .ref t1, .ref t4]) := upd_same
        clear hF
        generalize upd H124 fl (.lst ([V.ref t1, .ref t1] ++ [V.ref t4])) = H125 at smN hF2 hx hy hlf f1 f2 f3 f4 hp
        have smA := smN
        have hF := hF2
        clear smN hF2
        refine ⟨_, rfl, rfl, _, rfl, iteFF rfl ?_⟩
        refine ⟨_, rfl, rfl, _, rfl, iteFF rfl ?_⟩
        refine ⟨_, rfl, rfl, _, rfl, iteFF rfl ?_⟩
        refine ⟨fun σ H' => σ = [some (.ref p), some lv, some (.str "sum"), some (.ref fl), some x, some y, none, none] ∧ H' = H125, ⟨_, rfl, rfl, _, rfl, iteFF rfl (iteFF rfl ⟨rfl, rfl⟩)⟩, ?_⟩
        rintro σ H126 ⟨rfl, rfl⟩
        refine ⟨_, rfl, (by show 2 ≤ sizeLine; decide), fun w11 n_w11 => ⟨w11, _, rfl, .inr (SqT.of upd_same), rfl, rfl, _, rfl, iteFF rfl (iteFF rfl ?_)⟩⟩
        have s1 := same_new (o := HO.tup [.str "times", .str "by"]) n_w11
        have smN := smA.trans s1
        have hx := hx.same s1
        have hy := hy.same s1
        have hlf := hlf.same s1
        have f1 := f1.same s1
        have f2 := f2.same s1
        have f3 := f3.same s1
        have f4 := f4.same s1
        have hp := same_sqt s1 hp
        have hF := s1 _ _ hF
        clear s1
        generalize upd H126 w11 (HO.tup [.str "times", .str "by"]) = H127 at smN hx hy hlf f1 f2 f3 f4 hp hF
        have smA := smN
        clear smN
        refine ⟨_, rfl, (by show 2 ≤ sizeLine; decide), fun w12 n_w12 => ⟨w12, _, rfl, .inr (SqT.of upd_same), rfl, rfl, _, rfl, iteFF rfl ?_⟩⟩
        have s1 := same_new (o := HO.tup [.str "when", .str "where"]) n_w12
        have smN := smA.trans s1
        have hx := hx.same s1
        have hy := hy.same s1
        have hlf := hlf.same s1
        have f1 := f1.same s1
        have f2 := f2.same s1
        have f3 := f3.same s1
        have f4 := f4.same s1
        have hp := same_sqt s1 hp
        have hF := s1 _ _ hF
        clear s1
        generalize upd H127 w12 (HO.tup [.str "when", .str "where"]) = H128 at smN hx hy hlf f1 f2 f3 f4 hp hF
        have smA := smN
        clear smN
        refine ⟨.ref fl, rfl, q _ fl _ [.two .sum b0 a, .two .sum b0 a, .two .sum (.two .least a b0) (.two .most a b0)] smA nfl hF ⟨f1, f1, f4, trivial⟩ (by simp) fun e' h' => ?_⟩
        simp only [List.mem_cons, List.not_mem_nil, or_false] at h'
        rcases h' with rfl | rfl | rfl
        · exact ⟨⟨ob, oa⟩, by simp only [Ex.dep]; omega, sm_swap (by intro z; cases z)⟩
        · exact ⟨⟨ob, oa⟩, by simp only [Ex.dep]; omega, sm_swap (by intro z; cases z)⟩
        · exact ⟨⟨⟨oa, ob⟩, ⟨oa, ob⟩⟩, by simp only [Ex.dep]; omega, sm_ends⟩
      | less =>
        have hp : SqT K H p [.str "less", x, y] := hp
        refine ⟨.ref p, rfl, p, _, 0, _, rfl, rfl, hp, rfl, (by show 0 ≤ sizeLine; decide), fun fl nfl => ⟨_, _, rfl, ?_⟩⟩
        have n_fl := nfl
        have s1 := same_new (o := HO.lst []) n_fl
        have smN := smA.trans s1
        have hx := hx.same s1
        have hy := hy.same s1
        have hlf := hlf.same s1
        have hp := same_sqt s1 hp
        have hF : (upd H fl (HO.lst [])) fl = some (HO.lst []) := upd_same
        clear s1
        generalize upd H fl (HO.lst []) = H129 at smN hx hy hlf hp hF
        have smA := smN
        clear smN
        refine ⟨.ref p, rfl, 2, rfl, p, _, -2, _, rfl, rfl, hp, rfl, .ref p, rfl, 1, rfl, p, _, -1, _, rfl, rfl, hp, rfl, _, _, rfl, ?_⟩
        refine ⟨_, rfl, (by show 3 ≤ sizeLine; decide), fun w13 n_w13 => ⟨w13, _, rfl, .inr (SqT.of upd_same), rfl, rfl, _, rfl, iteFF rfl ?_⟩⟩
        have s1 := same_new (o := HO.tup [.str "sum", .str "least", .str "most"]) n_w13
        have smN := smA.trans s1
        have hx := hx.same s1
        have hy := hy.same s1
        have hlf := hlf.same s1
        have hp := same_sqt s1 hp
        have hF := s1 _ _ hF
        clear s1
        generalize upd H129 w13 (HO.tup [.str "sum", .str "least", .str "most"]) = H130 at smN hx hy hlf hp hF
        have smA := smN
        clear smN
        refine ⟨_, rfl, rfl, _, rfl, iteFF rfl ?_⟩
        refine ⟨_, rfl, rfl, _, rfl, iteTT rfl ?_⟩
        refine ⟨.ref fl, rfl, .inl ⟨rfl, _, SqL.of hF⟩, ?_⟩
        refine ⟨x, rfl, ?_⟩
        refine ⟨_, rfl, y, rfl, (by show 3 ≤ sizeLine; decide), fun t1 n_t1 => ?_⟩
        have s1 := same_new (o := HO.tup [.str "times", .int (-1), y]) n_t1
        have smN := smA.trans s1
        have hx := hx.same s1
        have hy := hy.same s1
        have hlf := hlf.same s1
        have hp := same_sqt s1 hp
        have hF := s1 _ _ hF
        have f1 : ExAt K (upd H130 t1 (HO.tup [.str "times", .int (-1), y])) (.times (-1) b0) (.ref t1) := ⟨t1, y, rfl, SqT.of upd_same, hy⟩
        clear s1
        generalize upd H130 t1 (HO.tup [.str "times", .int (-1), y]) = H131 at smN hx hy hlf f1 hp hF
        have smA := smN
        clear smN
        refine ⟨(by show 3 ≤ sizeLine; decide), fun t2 n_t2 => ?_⟩
        have s1 := same_new (o := HO.tup [.str "sum", x, .ref t1]) n_t2
        have smN := smA.trans s1
        have hx := hx.same s1
        have hy := hy.same s1
        have hlf := hlf.same s1
        have f1 := f1.same s1
        have hp := same_sqt s1 hp
        have hF := s1 _ _ hF
        have f2 : ExAt K (upd H131 t2 (HO.tup [.str "sum", x, .ref t1])) (.two .sum a (.times (-1) b0)) (.ref t2) := ⟨t2, x, .ref t1, rfl, SqT.of upd_same, hx, f1⟩
        clear s1
        generalize upd H131 t2 (HO.tup [.str "sum", x, .ref t1]) = H132 at smN hx hy hlf f1 f2 hp hF
        have smA := smN
        clear smN
        refine ⟨_, rfl, ?_⟩
        refine ⟨_, rfl, y, rfl, x, rfl, (by show 3 ≤ sizeLine; decide), fun t3 n_t3 => ?_⟩
        have s1 := same_new (o := HO.tup [.str "less", y, x]) n_t3
        have smN := smA.trans s1
        have hx := hx.same s1
        have hy := hy.same s1
        have hlf := hlf.same s1
        have f1 := f1.same s1
        have f2 := f2.same s1
        have hp := same_sqt s1 hp
        have hF := s1 _ _ hF
        have f3 : ExAt K (upd H132 t3 (HO.tup [.str "less", y, x])) (.two .less b0 a) (.ref t3) := ⟨t3, y, x, rfl, SqT.of upd_same, hy, hx⟩
        clear s1
        generalize upd H132 t3 (HO.tup [.str "less", y, x]) = H133 at smN hx hy hlf f1 f2 f3 hp hF
        have smA := smN
        clear smN
        refine ⟨(by show 3 ≤ sizeLine; decide), fun t4 n_t4 => ?_⟩
        have s1 := same_new (o := HO.tup [.str "times", .int (-1), .ref t3]) n_t4
        have smN := smA.trans s1
        have hx := hx.same s1
        have hy := hy.same s1
        have hlf := hlf.same s1
        have f1 := f1.same s1
        have f2 := f2.same s1
        have f3 := f3.same s1
        have hp := same_sqt s1 hp
        have hF := s1 _ _ hF
        have f4 : ExAt K (upd H133 t4 (HO.tup [.str "times", .int (-1), .ref t3])) (.times (-1) (.two .less b0 a)) (.ref t4) := ⟨t4, .ref t3, rfl, SqT.of upd_same, f3⟩
        clear s1
        generalize upd H133 t4 (HO.tup [.str "times", .int (-1), .ref t3]) = H134 at smN hx hy hlf f1 f2 f3 f4 hp hF
        have smA := smN
        clear smN
        refine ⟨(by show 2 ≤ sizeLine; decide), fun l1 n_l1 => ?_⟩
        have s1 := same_new (o := HO.lst [.ref t2, .ref t4]) n_l1
        have smN := smA.trans s1
        have hx := hx.same s1
        have hy := hy.same s1
        have hlf := hlf.same s1
        have f1 := f1.same s1
        have f2 := f2.same s1
        have f3 := f3.same s1
        have f4 := f4.same s1
        have hp := same_sqt s1 hp
        have hF := s1 _ _ hF
        have hl1 : (upd H134 l1 (HO.lst [.ref t2, .ref t4])) l1 = some (HO.lst [.ref t2, .ref t4]) := upd_same
        clear s1
        generalize upd H134 l1 (HO.lst [.ref t2, .ref t4]) = H135 at smN hx hy hlf f1 f2 f3 f4 hp hF hl1
        have smA := smN
        clear smN
        refine ⟨fl, l1, _, _, rfl, rfl, hF, hl1, (by show 2 ≤ sizeLine; decide), ?_⟩
        have smN : Same H (upd H135 fl (.lst ([] ++ [V.ref t2, .ref t4]))) := fun b' o eb => by rw [upd_ne (ne_of_none eb nfl)]; exact smA _ _ eb
        have hx := hx.imp fun _ _ q => put_sqt (us' := ([] ++ [V.ref t2, .ref t4])) hF q
        have hy := hy.imp fun _ _ q => put_sqt (us' := ([] ++ [V.ref t2, .ref t4])) hF q
        have hlf := hlf.imp fun _ _ q => put_sqt (us' := ([] ++ [V.ref t2, .ref t4])) hF q
        have f1 := f1.imp fun _ _ q => put_sqt (us' := ([] ++ [V.ref t2, .ref t4])) hF q
        have f2 := f2.imp fun _ _ q => put_sqt (us' := ([] ++ [V.ref t2, .ref t4])) hF q
        have f3 := f3.imp fun _ _ q => put_sqt (us' := ([] ++ [V.ref t2, .ref t4])) hF q
        have f4 := f4.imp fun _ _ q => put_sqt (us' := ([] ++ [V.ref t2, .ref t4])) hF q
        have hp := put_sqt (us' := ([] ++ [V.ref t2, .ref t4])) hF hp
        have hF2 : (upd H135 fl (.lst ([] ++ [V.ref t2, .ref t4]))) fl = some (.lst [V.ref t2, .ref t4]) := upd_same
        clear hl1
        clear hF
        generalize upd H135 fl (.lst ([] ++ [V.ref t2, .ref t4])) = H136 at smN hF2 hx hy hlf f1 f2 f3 f4 hp
        have smA := smN
        have hF := hF2
        clear smN hF2
        refine ⟨_, rfl, rfl, _, rfl, iteFF rfl ?_⟩
        refine ⟨_, rfl, rfl, _, rfl, iteFF rfl ?_⟩
        refine ⟨fun σ H' => σ = [some (.ref p), some lv, some (.str "less"), some (.ref fl), some x, some y, none, none] ∧ H' = H136, ⟨_, rfl, rfl, _, rfl, iteFF rfl (iteFF rfl ⟨rfl, rfl⟩)⟩, ?_⟩
        rintro σ H137 ⟨rfl, rfl⟩
        refine ⟨_, rfl, (by show 2 ≤ sizeLine; decide), fun w14 n_w14 => ⟨w14, _, rfl, .inr (SqT.of upd_same), rfl, rfl, _, rfl, iteFF rfl (iteFF rfl ?_)⟩⟩
        have s1 := same_new (o := HO.tup [.str "times", .str "by"]) n_w14
        have smN := smA.trans s1
        have hx := hx.same s1
        have hy := hy.same s1
        have hlf := hlf.same s1
        have f1 := f1.same s1
        have f2 := f2.same s1
        have f3 := f3.same s1
        have f4 := f4.same s1
        have hp := same_sqt s1 hp
        have hF := s1 _ _ hF
        clear s1
        generalize upd H137 w14 (HO.tup [.str "times", .str "by"]) = H138 at smN hx hy hlf f1 f2 f3 f4 hp hF
        have smA := smN
        clear smN
        refine ⟨_, rfl, (by show 2 ≤ sizeLine; decide), fun w15 n_w15 => ⟨w15, _, rfl, .inr (SqT.of upd_same), rfl, rfl, _, rfl, iteFF rfl ?_⟩⟩
        have s1 := same_new (o := HO.tup [.str "when", .str "where"]) n_w15
        have smN := smA.trans s1
        have hx := hx.same s1
        have hy := hy.same s1
        have hlf := hlf.same s1
        have f1 := f1.same s1
        have f2 := f2.same s1
        have f3 := f3.same s1
        have f4 := f4.same s1
        have hp := same_sqt s1 hp
        have hF := s1 _ _ hF
        clear s1
        generalize upd H138 w15 (HO.tup [.str "when", .str "where"]) = H139 at smN hx hy hlf f1 f2 f3 f4 hp hF
        have smA := smN
        clear smN
        refine ⟨.ref fl, rfl, q _ fl _ [.two .sum a (.times (-1) b0), .times (-1) (.two .less b0 a)] smA nfl hF ⟨f2, f4, trivial⟩ (by simp) fun e' h' => ?_⟩
        simp only [List.mem_cons, List.not_mem_nil, or_false] at h'
        rcases h' with rfl | rfl
        · exact ⟨⟨oa, ⟨by decide, by decide⟩, ob⟩, by simp only [Ex.dep]; omega, sm_less1⟩
        · exact ⟨⟨⟨by decide, by decide⟩, ob, oa⟩, by simp only [Ex.dep]; omega, sm_less2⟩
      | least =>
        have hp : SqT K H p [.str "least", x, y] := hp
        refine ⟨.ref p, rfl, p, _, 0, _, rfl, rfl, hp, rfl, (by show 0 ≤ sizeLine; decide), fun fl nfl => ⟨_, _, rfl, ?_⟩⟩
        have n_fl := nfl
        have s1 := same_new (o := HO.lst []) n_fl
        have smN := smA.trans s1
        have hx := hx.same s1
        have hy := hy.same s1
        have hlf := hlf.same s1
        have hp := same_sqt s1 hp
        have hF : (upd H fl (HO.lst [])) fl = some (HO.lst []) := upd_same
        clear s1
        generalize upd H fl (HO.lst []) = H140 at smN hx hy hlf hp hF
        have smA := smN
        clear smN
        refine ⟨.ref p, rfl, 2, rfl, p, _, -2, _, rfl, rfl, hp, rfl, .ref p, rfl, 1, rfl, p, _, -1, _, rfl, rfl, hp, rfl, _, _, rfl, ?_⟩
        refine ⟨_, rfl, (by show 3 ≤ sizeLine; decide), fun w16 n_w16 => ⟨w16, _, rfl, .inr (SqT.of upd_same), rfl, rfl, _, rfl, iteTT rfl ?_⟩⟩
        have s1 := same_new (o := HO.tup [.str "sum", .str "least", .str "most"]) n_w16
        have smN := smA.trans s1
        have hx := hx.same s1
        have hy := hy.same s1
        have hlf := hlf.same s1
        have hp := same_sqt s1 hp
        have hF := s1 _ _ hF
        clear s1
        generalize upd H140 w16 (HO.tup [.str "sum", .str "least", .str "most"]) = H141 at smN hx hy hlf hp hF
        have smA := smN
        clear smN
        refine ⟨.ref fl, rfl, .inl ⟨rfl, _, SqL.of hF⟩, ?_⟩
        refine ⟨_, rfl, y, rfl, x, rfl, (by show 3 ≤ sizeLine; decide), fun t1 n_t1 => ?_⟩
        have s1 := same_new (o := HO.tup [.str "least", y, x]) n_t1
        have smN := smA.trans s1
        have hx := hx.same s1
        have hy := hy.same s1
        have hlf := hlf.same s1
        have hp := same_sqt s1 hp
        have hF := s1 _ _ hF
        have f1 : ExAt K (upd H141 t1 (HO.tup [.str "least", y, x])) (.two .least b0 a) (.ref t1) := ⟨t1, y, x, rfl, SqT.of upd_same, hy, hx⟩
        clear s1
        generalize upd H141 t1 (HO.tup [.str "least", y, x]) = H142 at smN hx hy hlf f1 hp hF
        have smA := smN
        clear smN
        refine ⟨(by show 1 ≤ sizeLine; decide), fun l1 n_l1 => ?_⟩
        have s1 := same_new (o := HO.lst [.ref t1]) n_l1
        have smN := smA.trans s1
        have hx := hx.same s1
        have hy := hy.same s1
        have hlf := hlf.same s1
        have f1 := f1.same s1
        have hp := same_sqt s1 hp
        have hF := s1 _ _ hF
        have hl1 : (upd H142 l1 (HO.lst [.ref t1])) l1 = some (HO.lst [.ref t1]) := upd_same
        clear s1
        generalize upd H142 l1 (HO.lst [.ref t1]) = H143 at smN hx hy hlf f1 hp hF hl1
        have smA := smN
        clear smN
        refine ⟨l1, 2, _, rfl, rfl, hl1, by decide, by decide, (by show 1 * 2 ≤ sizeLine; decide), fun l2 n_l2 => ?_⟩
        have s1 := same_new (o := HO.lst (List.replicate (2 : Int).toNat [V.ref t1]).flatten) n_l2
        have smN := smA.trans s1
        have hx := hx.same s1
        have hy := hy.same s1
        have hlf := hlf.same s1
        have f1 := f1.same s1
        have hp := same_sqt s1 hp
        have hF := s1 _ _ hF
        have hl1 := s1 _ _ hl1
        have hl2 : (upd H143 l2 (HO.lst (List.replicate (2 : Int).toNat [V.ref t1]).flatten)) l2 = some (HO.lst [.ref t1, .ref t1]) := upd_same
        clear s1
        generalize upd H143 l2 (HO.lst (List.replicate (2 : Int).toNat [V.ref t1]).flatten) = H144 at smN hx hy hlf f1 hp hF hl1 hl2
        have smA := smN
        clear smN
        refine ⟨fl, l2, _, _, rfl, rfl, hF, hl2, (by show 2 ≤ sizeLine; decide), ?_⟩
        have smN : Same H (upd H144 fl (.lst ([] ++ [V.ref t1, .ref t1]))) := fun b' o eb => by rw [upd_ne (ne_of_none eb nfl)]; exact smA _ _ eb
        have hx := hx.imp fun _ _ q => put_sqt (us' := ([] ++ [V.ref t1, .ref t1])) hF q
        have hy := hy.imp fun _ _ q => put_sqt (us' := ([] ++ [V.ref t1, .ref t1])) hF q
        have hlf := hlf.imp fun _ _ q => put_sqt (us' := ([] ++ [V.ref t1, .ref t1])) hF q
        have f1 := f1.imp fun _ _ q => put_sqt (us' := ([] ++ [V.ref t1, .ref t1])) hF q
        have hp := put_sqt (us' := ([] ++ [V.ref t1, .ref t1])) hF hp
        have hF2 : (upd H144 fl (.lst ([] ++ [V.ref t1, .ref t1]))) fl = some (.lst [V.ref t1, .ref t1]) := upd_same
        clear hl1
        clear hl2
        clear hF
        generalize upd H144 fl (.lst ([] ++ [V.ref t1, .ref t1])) = H145 at smN hF2 hx hy hlf f1 hp
        have smA := smN
        have hF := hF2
        clear smN hF2
        refine ⟨_, rfl, rfl, _, rfl, iteFF rfl ?_⟩
        refine ⟨_, rfl, rfl, _, rfl, iteFF rfl ?_⟩
        refine ⟨_, rfl, rfl, _, rfl, iteTT rfl ?_⟩
        refine ⟨.ref fl, rfl, .inl ⟨rfl, _, SqL.of hF⟩, ?_⟩
        refine ⟨_, rfl, ?_⟩
        refine ⟨_, rfl, x, rfl, (by show 3 ≤ sizeLine; decide), fun t2 n_t2 => ?_⟩
        have s1 := same_new (o := HO.tup [.str "times", .int (-1), x]) n_t2
        have smN := smA.trans s1
        have hx := hx.same s1
        have hy := hy.same s1
        have hlf := hlf.same s1
        have f1 := f1.same s1
        have hp := same_sqt s1 hp
        have hF := s1 _ _ hF
        have f2 : ExAt K (upd H145 t2 (HO.tup [.str "times", .int (-1), x])) (.times (-1) a) (.ref t2) := ⟨t2, x, rfl, SqT.of upd_same, hx⟩
        clear s1
        generalize upd H145 t2 (HO.tup [.str "times", .int (-1), x]) = H146 at smN hx hy hlf f1 f2 hp hF
        have smA := smN
        clear smN
        refine ⟨_, rfl, y, rfl, (by show 3 ≤ sizeLine; decide), fun t3 n_t3 => ?_⟩
        have s1 := same_new (o := HO.tup [.str "times", .int (-1), y]) n_t3
        have smN := smA.trans s1
        have hx := hx.same s1
        have hy := hy.same s1
        have hlf := hlf.same s1
        have f1 := f1.same s1
        have f2 := f2.same s1
        have hp := same_sqt s1 hp
        have hF := s1 _ _ hF
        have f3 : ExAt K (upd H146 t3 (HO.tup [.str "times", .int (-1), y])) (.times (-1) b0) (.ref t3) := ⟨t3, y, rfl, SqT.of upd_same, hy⟩
        clear s1
        generalize upd H146 t3 (HO.tup [.str "times", .int (-1), y]) = H147 at smN hx hy hlf f1 f2 f3 hp hF
        have smA := smN
        clear smN
        refine ⟨(by show 3 ≤ sizeLine; decide), fun t4 n_t4 => ?_⟩
        have s1 := same_new (o := HO.tup [.str "most", .ref t2, .ref t3]) n_t4
        have smN := smA.trans s1
        have hx := hx.same s1
        have hy := hy.same s1
        have hlf := hlf.same s1
        have f1 := f1.same s1
        have f2 := f2.same s1
        have f3 := f3.same s1
        have hp := same_sqt s1 hp
        have hF := s1 _ _ hF
        have f4 : ExAt K (upd H147 t4 (HO.tup [.str "most", .ref t2, .ref t3])) (.two .most (.times (-1) a) (.times (-1) b0)) (.ref t4) := ⟨t4, .ref t2, .ref t3, rfl, SqT.of upd_same, f2, f3⟩
        clear s1
        generalize upd H147 t4 (HO.tup [.str "most", .ref t2, .ref t3]) = H148 at smN hx hy hlf f1 f2 f3 f4 hp hF
        have smA := smN
        clear smN
        refine ⟨(by show 3 ≤ sizeLine; decide), fun t5 n_t5 => ?_⟩
        have s1 := same_new (o := HO.tup [.str "times", .int (-1), .ref t4]) n_t5
        have smN := smA.trans s1
        have hx := hx.same s1
        have hy := hy.same s1
        have hlf := hlf.same s1
        have f1 := f1.same s1
        have f2 := f2.same s1
        have f3 := f3.same s1
        have f4 := f4.same s1
        have hp := same_sqt s1 hp
        have hF := s1 _ _ hF
        have f5 : ExAt K (upd H148 t5 (HO.tup [.str "times", .int (-1), .ref t4])) (.times (-1) (.two .most (.times (-1) a) (.times (-1) b0))) (.ref t5) := ⟨t5, .ref t4, rfl, SqT.of upd_same, f4⟩
        clear s1
        generalize upd H148 t5 (HO.tup [.str "times", .int (-1), .ref t4]) = H149 at smN hx hy hlf f1 f2 f3 f4 f5 hp hF
        have smA := smN
        clear smN
        refine ⟨fl, _, _, rfl, rfl, hF, small1000 (by simp), ?_⟩
        have smN : Same H (upd H149 fl (.lst ([V.ref t1, .ref t1] ++ [V.ref t5]))) := fun b' o eb => by rw [upd_ne (ne_of_none eb nfl)]; exact smA _ _ eb
        have hx := hx.imp fun _ _ q => put_sqt (us' := ([V.ref t1, .ref t1] ++ [V.ref t5])) hF q
        have hy := hy.imp fun _ _ q => put_sqt (us' := ([V.ref t1, .ref t1] ++ [V.ref t5])) hF q
        have hlf := hlf.imp fun _ _ q => put_sqt (us' := ([V.ref t1, .ref t1] ++ [V.ref t5])) hF q
        have f1 := f1.imp fun _ _ q => put_sqt (us' := ([V.ref t1, .ref t1] ++ [V.ref t5])) hF q
        have f2 := f2.imp fun _ _ q => put_sqt (us' := ([V.ref t1, .ref t1] ++ [V.ref t5])) hF q
        have f3 := f3.imp fun _ _ q => put_sqt (us' := ([V.ref t1, .ref t1] ++ [V.ref t5])) hF q
        have f4 := f4.imp fun _ _ q => put_sqt (us' := ([V.ref t1, .ref t1] ++ [V.ref t5])) hF q
        have f5 := f5.imp fun _ _ q => put_sqt (us' := ([V.ref t1, .ref t1] ++ [V.ref t5])) hF q
        have hp := put_sqt (us' := ([V.ref t1, .ref t1] ++ [V.ref t5])) hF hp
        have hF2 : (upd H149 fl (.lst ([V.ref t1, .ref t1] ++ [V.ref t5]))) fl = some (.lst [V.ref t1, .ref t1, .ref t5]) := upd_same
        clear hF
        generalize upd H149 fl (.lst ([V.ref t1, .ref t1] ++ [V.ref t5])) = H150 at smN hF2 hx hy hlf f1 f2 f3 f4 f5 hp
        have smA := smN
        have hF := hF2
        clear smN hF2
        refine ⟨_, rfl, rfl, _, rfl, iteFF rfl ?_⟩
        refine ⟨fun σ H' => σ = [some (.ref p), some lv, some (.str "least"), some (.ref fl), some x, some y, none, none] ∧ H' = H150, ⟨_, rfl, rfl, _, rfl, iteFF rfl (iteFF rfl ⟨rfl, rfl⟩)⟩, ?_⟩
        rintro σ H151 ⟨rfl, rfl⟩
        refine ⟨_, rfl, (by show 2 ≤ sizeLine; decide), fun w17 n_w17 => ⟨w17, _, rfl, .inr (SqT.of upd_same), rfl, rfl, _, rfl, iteFF rfl (iteFF rfl ?_)⟩⟩
        have s1 := same_new (o := HO.tup [.str "times", .str "by"]) n_w17
        have smN := smA.trans s1
        have hx := hx.same s1
        have hy := hy.same s1
        have hlf := hlf.same s1
        have f1 := f1.same s1
        have f2 := f2.same s1
        have f3 := f3.same s1
        have f4 := f4.same s1
        have f5 := f5.same s1
        have hp := same_sqt s1 hp
        have hF := s1 _ _ hF
        clear s1
        generalize upd H151 w17 (HO.tup [.str "times", .str "by"]) = H152 at smN hx hy hlf f1 f2 f3 f4 f5 hp hF
        have smA := smN
        clear smN
        refine ⟨_, rfl, (by show 2 ≤ sizeLine; decide), fun w18 n_w18 => ⟨w18, _, rfl, .inr (SqT.of upd_same), rfl, rfl, _, rfl, iteFF rfl ?_⟩⟩
        have s1 := same_new (o := HO.tup [.str "when", .str "where"]) n_w18
        have smN := smA.trans s1
        have hx := hx.same s1
        have hy := hy.same s1
        have hlf := hlf.same s1
        have f1 := f1.same s1
        have f2 := f2.same s1
        have f3 := f3.same s1
        have f4 := f4.same s1
        have f5 := f5.same s1
        have hp := same_sqt s1 hp
        have hF := s1 _ _ hF
        clear s1
        generalize upd H152 w18 (HO.tup [.str "when", .str "where"]) = H153 at smN hx hy hlf f1 f2 f3 f4 f5 hp hF
        have smA := smN
        clear smN
        refine ⟨.ref fl, rfl, q _ fl _ [.two .least b0 a, .two .least b0 a, .times (-1) (.two .most (.times (-1) a) (.times (-1) b0))] smA nfl hF ⟨f1, f1, f5, trivial⟩ (by simp) fun e' h' => ?_⟩
        simp only [List.mem_cons, List.not_mem_nil, or_false] at h'
        rcases h' with rfl | rfl | rfl
        · exact ⟨⟨ob, oa⟩, by simp only [Ex.dep]; omega, sm_swap (by intro z; cases z)⟩
        · exact ⟨⟨ob, oa⟩, by simp only [Ex.dep]; omega, sm_swap (by intro z; cases z)⟩
        · exact ⟨⟨⟨by decide, by decide⟩, ⟨⟨by decide, by decide⟩, oa⟩, ⟨by decide, by decide⟩, ob⟩, by simp only [Ex.dep]; omega, sm_least⟩
      | most =>
        have hp : SqT K H p [.str "most", x, y] := hp
        refine ⟨.ref p, rfl, p, _, 0, _, rfl, rfl, hp, rfl, (by show 0 ≤ sizeLine; decide), fun fl nfl => ⟨_, _, rfl, ?_⟩⟩
        have n_fl := nfl
        have s1 := same_new (o := HO.lst []) n_fl
        have smN := smA.trans s1
        have hx := hx.same s1
        have hy := hy.same s1
        have hlf := hlf.same s1
        have hp := same_sqt s1 hp
        have hF : (upd H fl (HO.lst [])) fl = some (HO.lst []) := upd_same
        clear s1
        generalize upd H fl (HO.lst []) = H154 at smN hx hy hlf hp hF
        have smA := smN
        clear smN
        refine ⟨.ref p, rfl, 2, rfl, p, _, -2, _, rfl, rfl, hp, rfl, .ref p, rfl, 1, rfl, p, _, -1, _, rfl, rfl, hp, rfl, _, _, rfl, ?_⟩
        refine ⟨_, rfl, (by show 3 ≤ sizeLine; decide), fun w19 n_w19 => ⟨w19, _, rfl, .inr (SqT.of upd_same), rfl, rfl, _, rfl, iteTT rfl ?_⟩⟩
        have s1 := same_new (o := HO.tup [.str "sum", .str "least", .str "most"]) n_w19
        have smN := smA.trans s1
        have hx := hx.same s1
        have hy := hy.same s1
        have hlf := hlf.same s1
        have hp := same_sqt s1 hp
        have hF := s1 _ _ hF
        clear s1
        generalize upd H154 w19 (HO.tup [.str "sum", .str "least", .str "most"]) = H155 at smN hx hy hlf hp hF
        have smA := smN
        clear smN
        refine ⟨.ref fl, rfl, .inl ⟨rfl, _, SqL.of hF⟩, ?_⟩
        refine ⟨_, rfl, y, rfl, x, rfl, (by show 3 ≤ sizeLine; decide), fun t1 n_t1 => ?_⟩
        have s1 := same_new (o := HO.tup [.str "most", y, x]) n_t1
        have smN := smA.trans s1
        have hx := hx.same s1
        have hy := hy.same s1
        have hlf := hlf.same s1
        have hp := same_sqt s1 hp
        have hF := s1 _ _ hF
        have f1 : ExAt K (upd H155 t1 (HO.tup [.str "most", y, x])) (.two .most b0 a) (.ref t1) := ⟨t1, y, x, rfl, SqT.of upd_same, hy, hx⟩
        clear s1
        generalize upd H155 t1 (HO.tup [.str "most", y, x]) = H156 at smN hx hy hlf f1 hp hF
        have smA := smN
        clear smN
        refine ⟨(by show 1 ≤ sizeLine; decide), fun l1 n_l1 => ?_⟩
        have s1 := same_new (o := HO.lst [.ref t1]) n_l1
        have smN := smA.trans s1
        have hx := hx.same s1
        have hy := hy.same s1
        have hlf := hlf.same s1
        have f1 := f1.same s1
        have hp := same_sqt s1 hp
        have hF := s1 _ _ hF
        have hl1 : (upd H156 l1 (HO.lst [.ref t1])) l1 = some (HO.lst [.ref t1]) := upd_same
        clear s1
        generalize upd H156 l1 (HO.lst [.ref t1]) = H157 at smN hx hy hlf f1 hp hF hl1
        have smA := smN
        clear smN
        refine ⟨l1, 2, _, rfl, rfl, hl1, by decide, by decide, (by show 1 * 2 ≤ sizeLine; decide), fun l2 n_l2 => ?_⟩
        have s1 := same_new (o := HO.lst (List.replicate (2 : Int).toNat [V.ref t1]).flatten) n_l2
        have smN := smA.trans s1
        have hx := hx.same s1
        have hy := hy.same s1
        have hlf := hlf.same s1
        have f1 := f1.same s1
        have hp := same_sqt s1 hp
        have hF := s1 _ _ hF
        have hl1 := s1 _ _ hl1
        have hl2 : (upd H157 l2 (HO.lst (List.replicate (2 : Int).toNat [V.ref t1]).flatten)) l2 = some (HO.lst [.ref t1, .ref t1]) := upd_same
        clear s1
        generalize upd H157 l2 (HO.lst (List.replicate (2 : Int).toNat [V.ref t1]).flatten) = H158 at smN hx hy hlf f1 hp hF hl1 hl2
        have smA := smN
        clear smN
        refine ⟨fl, l2, _, _, rfl, rfl, hF, hl2, (by show 2 ≤ sizeLine; decide), ?_⟩
        have smN : Same H (upd H158 fl (.lst ([] ++ [V.ref t1, .ref t1]))) := fun b' o eb => by rw [upd_ne (ne_of_none eb nfl)]; exact smA _ _ eb
        have hx := hx.imp fun _ _ q => put_sqt (us' := ([] ++ [V.ref t1, .ref t1])) hF q
        have hy := hy.imp fun _ _ q => put_sqt (us' := ([] ++ [V.ref t1, .ref t1])) hF q
        have hlf := hlf.imp fun _ _ q => put_sqt (us' := ([] ++ [V.ref t1, .ref t1])) hF q
        have f1 := f1.imp fun _ _ q => put_sqt (us' := ([] ++ [V.ref t1, .ref t1])) hF q
        have hp := put_sqt (us' := ([] ++ [V.ref t1, .ref t1])) hF hp
        have hF2 : (upd H158 fl (.lst ([] ++ [V.ref t1, .ref t1]))) fl = some (.lst [V.ref t1, .ref t1]) := upd_same
        clear hl1
        clear hl2
        clear hF
        generalize upd H158 fl (.lst ([] ++ [V.ref t1, .ref t1])) = H159 at smN hF2 hx hy hlf f1 hp
        have smA := smN
        have hF := hF2
        clear smN hF2
        refine ⟨_, rfl, rfl, _, rfl, iteFF rfl ?_⟩
        refine ⟨_, rfl, rfl, _, rfl, iteFF rfl ?_⟩
        refine ⟨_, rfl, rfl, _, rfl, iteFF rfl ?_⟩
        refine ⟨_, rfl, rfl, _, rfl, iteTT rfl ?_⟩
        refine ⟨.ref fl, rfl, .inl ⟨rfl, _, SqL.of hF⟩, ?_⟩
        refine ⟨x, rfl, _, rfl, ?_⟩
        refine ⟨(by show 2 ≤ sizeLine; decide), fun t2 n_t2 => ?_⟩
        have s1 := same_new (o := HO.tup [.str "fig", .int 0]) n_t2
        have smN := smA.trans s1
        have hx := hx.same s1
        have hy := hy.same s1
        have hlf := hlf.same s1
        have f1 := f1.same s1
        have hp := same_sqt s1 hp
        have hF := s1 _ _ hF
        have f2 : ExAt K (upd H159 t2 (HO.tup [.str "fig", .int 0])) (.fig 0) (.ref t2) := ⟨t2, rfl, SqT.of upd_same⟩
        clear s1
        generalize upd H159 t2 (HO.tup [.str "fig", .int 0]) = H160 at smN hx hy hlf f1 f2 hp hF
        have smA := smN
        clear smN
        refine ⟨y, rfl, x, rfl, (by show 3 ≤ sizeLine; decide), fun t3 n_t3 => ?_⟩
        have s1 := same_new (o := HO.tup [.str "less", y, x]) n_t3
        have smN := smA.trans s1
        have hx := hx.same s1
        have hy := hy.same s1
        have hlf := hlf.same s1
        have f1 := f1.same s1
        have f2 := f2.same s1
        have hp := same_sqt s1 hp
        have hF := s1 _ _ hF
        have f3 : ExAt K (upd H160 t3 (HO.tup [.str "less", y, x])) (.two .less b0 a) (.ref t3) := ⟨t3, y, x, rfl, SqT.of upd_same, hy, hx⟩
        clear s1
        generalize upd H160 t3 (HO.tup [.str "less", y, x]) = H161 at smN hx hy hlf f1 f2 f3 hp hF
        have smA := smN
        clear smN
        refine ⟨(by show 3 ≤ sizeLine; decide), fun t4 n_t4 => ?_⟩
        have s1 := same_new (o := HO.tup [.str "most", .ref t2, .ref t3]) n_t4
        have smN := smA.trans s1
        have hx := hx.same s1
        have hy := hy.same s1
        have hlf := hlf.same s1
        have f1 := f1.same s1
        have f2 := f2.same s1
        have f3 := f3.same s1
        have hp := same_sqt s1 hp
        have hF := s1 _ _ hF
        have f4 : ExAt K (upd H161 t4 (HO.tup [.str "most", .ref t2, .ref t3])) (.two .most (.fig 0) (.two .less b0 a)) (.ref t4) := ⟨t4, .ref t2, .ref t3, rfl, SqT.of upd_same, f2, f3⟩
        clear s1
        generalize upd H161 t4 (HO.tup [.str "most", .ref t2, .ref t3]) = H162 at smN hx hy hlf f1 f2 f3 f4 hp hF
        have smA := smN
        clear smN
        refine ⟨(by show 3 ≤ sizeLine; decide), fun t5 n_t5 => ?_⟩
        have s1 := same_new (o := HO.tup [.str "sum", x, .ref t4]) n_t5
        have smN := smA.trans s1
        have hx := hx.same s1
        have hy := hy.same s1
        have hlf := hlf.same s1
        have f1 := f1.same s1
        have f2 := f2.same s1
        have f3 := f3.same s1
        have f4 := f4.same s1
        have hp := same_sqt s1 hp
        have hF := s1 _ _ hF
        have f5 : ExAt K (upd H162 t5 (HO.tup [.str "sum", x, .ref t4])) (.two .sum a (.two .most (.fig 0) (.two .less b0 a))) (.ref t5) := ⟨t5, x, .ref t4, rfl, SqT.of upd_same, hx, f4⟩
        clear s1
        generalize upd H162 t5 (HO.tup [.str "sum", x, .ref t4]) = H163 at smN hx hy hlf f1 f2 f3 f4 f5 hp hF
        have smA := smN
        clear smN
        refine ⟨fl, _, _, rfl, rfl, hF, small1000 (by simp), ?_⟩
        have smN : Same H (upd H163 fl (.lst ([V.ref t1, .ref t1] ++ [V.ref t5]))) := fun b' o eb => by rw [upd_ne (ne_of_none eb nfl)]; exact smA _ _ eb
        have hx := hx.imp fun _ _ q => put_sqt (us' := ([V.ref t1, .ref t1] ++ [V.ref t5])) hF q
        have hy := hy.imp fun _ _ q => put_sqt (us' := ([V.ref t1, .ref t1] ++ [V.ref t5])) hF q
        have hlf := hlf.imp fun _ _ q => put_sqt (us' := ([V.ref t1, .ref t1] ++ [V.ref t5])) hF q
        have f1 := f1.imp fun _ _ q => put_sqt (us' := ([V.ref t1, .ref t1] ++ [V.ref t5])) hF q
        have f2 := f2.imp fun _ _ q => put_sqt (us' := ([V.ref t1, .ref t1] ++ [V.ref t5])) hF q
        have f3 := f3.imp fun _ _ q => put_sqt (us' := ([V.ref t1, .ref t1] ++ [V.ref t5])) hF q
        have f4 := f4.imp fun _ _ q => put_sqt (us' := ([V.ref t1, .ref t1] ++ [V.ref t5])) hF q
        have f5 := f5.imp fun _ _ q => put_sqt (us' := ([V.ref t1, .ref t1] ++ [V.ref t5])) hF q
        have hp := put_sqt (us' := ([V.ref t1, .ref t1] ++ [V.ref t5])) hF hp
        have hF2 : (upd H163 fl (.lst ([V.ref t1, .ref t1] ++ [V.ref t5]))) fl = some (.lst [V.ref t1, .ref t1, .ref t5]) := upd_same
        clear hF
        generalize upd H163 fl (.lst ([V.ref t1, .ref t1] ++ [V.ref t5])) = H164 at smN hF2 hx hy hlf f1 f2 f3 f4 f5 hp
        have smA := smN
        have hF := hF2
        clear smN hF2
        refine ⟨fun σ H' => σ = [some (.ref p), some lv, some (.str "most"), some (.ref fl), some x, some y, none, none] ∧ H' = H164, ⟨_, rfl, rfl, _, rfl, iteFF rfl (iteFF rfl ⟨rfl, rfl⟩)⟩, ?_⟩
        rintro σ H165 ⟨rfl, rfl⟩
        refine ⟨_, rfl, (by show 2 ≤ sizeLine; decide), fun w20 n_w20 => ⟨w20, _, rfl, .inr (SqT.of upd_same), rfl, rfl, _, rfl, iteFF rfl (iteFF rfl ?_)⟩⟩
        have s1 := same_new (o := HO.tup [.str "times", .str "by"]) n_w20
        have smN := smA.trans s1
        have hx := hx.same s1
        have hy := hy.same s1
        have hlf := hlf.same s1
        have f1 := f1.same s1
        have f2 := f2.same s1
        have f3 := f3.same s1
        have f4 := f4.same s1
        have f5 := f5.same s1
        have hp := same_sqt s1 hp
        have hF := s1 _ _ hF
        clear s1
        generalize upd H165 w20 (HO.tup [.str "times", .str "by"]) = H166 at smN hx hy hlf f1 f2 f3 f4 f5 hp hF
        have smA := smN
        clear smN
        refine ⟨_, rfl, (by show 2 ≤ sizeLine; decide), fun w21 n_w21 => ⟨w21, _, rfl, .inr (SqT.of upd_same), rfl, rfl, _, rfl, iteFF rfl ?_⟩⟩
        have s1 := same_new (o := HO.tup [.str "when", .str "where"]) n_w21
        have smN := smA.trans s1
        have hx := hx.same s1
        have hy := hy.same s1
        have hlf := hlf.same s1
        have f1 := f1.same s1
        have f2 := f2.same s1
        have f3 := f3.same s1
        have f4 := f4.same s1
        have f5 := f5.same s1
        have hp := same_sqt s1 hp
        have hF := s1 _ _ hF
        clear s1
        generalize upd H166 w21 (HO.tup [.str "when", .str "where"]) = H167 at smN hx hy hlf f1 f2 f3 f4 f5 hp hF
        have smA := smN
        clear smN
        refine ⟨.ref fl, rfl, q _ fl _ [.two .most b0 a, .two .most b0 a, .two .sum a (.two .most (.fig 0) (.two .less b0 a))] smA nfl hF ⟨f1, f1, f5, trivial⟩ (by simp) fun e' h' => ?_⟩
        simp only [List.mem_cons, List.not_mem_nil, or_false] at h'
        rcases h' with rfl | rfl | rfl
        · exact ⟨⟨ob, oa⟩, by simp only [Ex.dep]; omega, sm_swap (by intro z; cases z)⟩
        · exact ⟨⟨ob, oa⟩, by simp only [Ex.dep]; omega, sm_swap (by intro z; cases z)⟩
        · exact ⟨⟨oa, ⟨by decide, by decide⟩, ob, oa⟩, by simp only [Ex.dep]; omega, sm_most⟩
    | when i0 c0 a b0 =>
      obtain ⟨p, x, y, rfl, hp, hx, hy⟩ := he
      obtain ⟨oi, oc, oa, ob⟩ := ho
      refine ⟨.ref p, rfl, p, _, 0, _, rfl, rfl, hp, rfl, (by show 0 ≤ sizeLine; decide), fun fl nfl => ⟨_, _, rfl, ?_⟩⟩
      have n_fl := nfl
      have s1 := same_new (o := HO.lst []) n_fl
      have smN := smA.trans s1
      have hx := hx.same s1
      have hy := hy.same s1
      have hlf := hlf.same s1
      have hp := same_sqt s1 hp
      have hF : (upd H fl (HO.lst [])) fl = some (HO.lst []) := upd_same
      clear s1
      generalize upd H fl (HO.lst []) = H168 at smN hx hy hlf hp hF
      have smA := smN
      clear smN
      refine ⟨.ref p, rfl, 2, rfl, p, _, -2, _, rfl, rfl, hp, rfl, .ref p, rfl, 1, rfl, p, _, -1, _, rfl, rfl, hp, rfl, _, _, rfl, ?_⟩
      refine ⟨_, rfl, (by show 3 ≤ sizeLine; decide), fun w22 n_w22 => ⟨w22, _, rfl, .inr (SqT.of upd_same), rfl, rfl, _, rfl, iteFF rfl ?_⟩⟩
      have s1 := same_new (o := HO.tup [.str "sum", .str "least", .str "most"]) n_w22
      have smN := smA.trans s1
      have hx := hx.same s1
      have hy := hy.same s1
      have hlf := hlf.same s1
      have hp := same_sqt s1 hp
      have hF := s1 _ _ hF
      clear s1
      generalize upd H168 w22 (HO.tup [.str "sum", .str "least", .str "most"]) = H169 at smN hx hy hlf hp hF
      have smA := smN
      clear smN
      refine ⟨_, rfl, rfl, _, rfl, iteFF rfl ?_⟩
      refine ⟨_, rfl, rfl, _, rfl, iteFF rfl ?_⟩
      refine ⟨_, rfl, rfl, _, rfl, iteFF rfl ?_⟩
      refine ⟨_, rfl, rfl, _, rfl, iteFF rfl ?_⟩
      refine ⟨fun σ H' => σ = [some (.ref p), some lv, some (.str "when"), some (.ref fl), some x, some y, none, none] ∧ H' = H169, ⟨_, rfl, rfl, _, rfl, iteFF rfl (iteFF rfl ⟨rfl, rfl⟩)⟩, ?_⟩
      rintro σ H170 ⟨rfl, rfl⟩
      refine ⟨_, rfl, (by show 2 ≤ sizeLine; decide), fun w23 n_w23 => ⟨w23, _, rfl, .inr (SqT.of upd_same), rfl, rfl, _, rfl, iteFF rfl (iteFF rfl ?_)⟩⟩
      have s1 := same_new (o := HO.tup [.str "times", .str "by"]) n_w23
      have smN := smA.trans s1
      have hx := hx.same s1
      have hy := hy.same s1
      have hlf := hlf.same s1
      have hp := same_sqt s1 hp
      have hF := s1 _ _ hF
      clear s1
      generalize upd H170 w23 (HO.tup [.str "times", .str "by"]) = H171 at smN hx hy hlf hp hF
      have smA := smN
      clear smN
      refine ⟨_, rfl, (by show 2 ≤ sizeLine; decide), fun w24 n_w24 => ⟨w24, _, rfl, .inr (SqT.of upd_same), rfl, rfl, _, rfl, iteTT rfl ?_⟩⟩
      have s1 := same_new (o := HO.tup [.str "when", .str "where"]) n_w24
      have smN := smA.trans s1
      have hx := hx.same s1
      have hy := hy.same s1
      have hlf := hlf.same s1
      have hp := same_sqt s1 hp
      have hF := s1 _ _ hF
      clear s1
      generalize upd H171 w24 (HO.tup [.str "when", .str "where"]) = H172 at smN hx hy hlf hp hF
      have smA := smN
      clear smN
      refine ⟨.ref p, rfl, 1, rfl, 3, rfl, p, _, rfl, hp, (by show ¬ (1 = 0 ∧ 3 = 5); decide), fun cc n_cc => ?_⟩
      have s1 := same_new (o := HO.tup (cutV [V.str "when", V.int (i0 : Int), V.int c0, x, y] (some 1) (some 3))) n_cc
      have smN := smA.trans s1
      have hx := hx.same s1
      have hy := hy.same s1
      have hlf := hlf.same s1
      have hp := same_sqt s1 hp
      have hF := s1 _ _ hF
      have hcc : SqT K (upd H172 cc (HO.tup (cutV [V.str "when", V.int (i0 : Int), V.int c0, x, y] (some 1) (some 3)))) cc ([V.int (i0 : Int), V.int c0]) := SqT.of upd_same
      clear s1
      generalize upd H172 cc (HO.tup (cutV [V.str "when", V.int (i0 : Int), V.int c0, x, y] (some 1) (some 3))) = H173 at smN hx hy hlf hp hcc hF
      have smA := smN
      clear smN
      refine ⟨cc, _, rfl, hcc, rfl, _, _, rfl, _, _, rfl, rfl, ?_⟩
      refine ⟨.ref fl, rfl, .inl ⟨rfl, _, SqL.of hF⟩, ?_⟩
      refine ⟨_, rfl, _, rfl, _, rfl, ?_⟩
      refine ⟨_, rfl, _, rfl, _, rfl, x, rfl, lv, rfl, (by show 5 ≤ sizeLine; decide), fun t1 n_t1 => ?_⟩
      have s1 := same_new (o := HO.tup [.str "when", .int (i0 : Int), .int c0, x, lv]) n_t1
      have smN := smA.trans s1
      have hx := hx.same s1
      have hy := hy.same s1
      have hlf := hlf.same s1
      have hp := same_sqt s1 hp
      have hcc := same_sqt s1 hcc
      have hF := s1 _ _ hF
      have f1 : ExAt K (upd H173 t1 (HO.tup [.str "when", .int (i0 : Int), .int c0, x, lv])) (.when i0 c0 a lf) (.ref t1) := ⟨t1, x, lv, rfl, SqT.of upd_same, hx, hlf⟩
      clear s1
      generalize upd H173 t1 (HO.tup [.str "when", .int (i0 : Int), .int c0, x, lv]) = H174 at smN hx hy hlf f1 hp hcc hF
      have smA := smN
      clear smN
      refine ⟨y, rfl, (by show 5 ≤ sizeLine; decide), fun t2 n_t2 => ?_⟩
      have s1 := same_new (o := HO.tup [.str "when", .int (i0 : Int), .int c0, .ref t1, y]) n_t2
      have smN := smA.trans s1
      have hx := hx.same s1
      have hy := hy.same s1
      have hlf := hlf.same s1
      have f1 := f1.same s1
      have hp := same_sqt s1 hp
      have hcc := same_sqt s1 hcc
      have hF := s1 _ _ hF
      have f2 : ExAt K (upd H174 t2 (HO.tup [.str "when", .int (i0 : Int), .int c0, .ref t1, y])) (.when i0 c0 (.when i0 c0 a lf) b0) (.ref t2) := ⟨t2, .ref t1, y, rfl, SqT.of upd_same, f1, hy⟩
      clear s1
      generalize upd H174 t2 (HO.tup [.str "when", .int (i0 : Int), .int c0, .ref t1, y]) = H175 at smN hx hy hlf f1 f2 hp hcc hF
      have smA := smN
      clear smN
      refine ⟨fl, _, _, rfl, rfl, hF, small1000 (by simp), ?_⟩
      have smN : Same H (upd H175 fl (.lst ([] ++ [V.ref t2]))) := fun b' o eb => by rw [upd_ne (ne_of_none eb nfl)]; exact smA _ _ eb
      have hx := hx.imp fun _ _ q => put_sqt (us' := ([] ++ [V.ref t2])) hF q
      have hy := hy.imp fun _ _ q => put_sqt (us' := ([] ++ [V.ref t2])) hF q
      have hlf := hlf.imp fun _ _ q => put_sqt (us' := ([] ++ [V.ref t2])) hF q
      have f1 := f1.imp fun _ _ q => put_sqt (us' := ([] ++ [V.ref t2])) hF q
      have f2 := f2.imp fun _ _ q => put_sqt (us' := ([] ++ [V.ref t2])) hF q
      have hp := put_sqt (us' := ([] ++ [V.ref t2])) hF hp
      have hcc := put_sqt (us' := ([] ++ [V.ref t2])) hF hcc
      have hF2 : (upd H175 fl (.lst ([] ++ [V.ref t2]))) fl = some (.lst [V.ref t2]) := upd_same
      clear hF
      generalize upd H175 fl (.lst ([] ++ [V.ref t2])) = H176 at smN hF2 hx hy hlf f1 f2 hp hcc
      have smA := smN
      have hF := hF2
      clear smN hF2
      refine ⟨.ref fl, rfl, .inl ⟨rfl, _, SqL.of hF⟩, ?_⟩
      refine ⟨_, rfl, _, rfl, _, rfl, x, rfl, ?_⟩
      refine ⟨_, rfl, _, rfl, _, rfl, lv, rfl, y, rfl, (by show 5 ≤ sizeLine; decide), fun t3 n_t3 => ?_⟩
      have s1 := same_new (o := HO.tup [.str "when", .int (i0 : Int), .int c0, lv, y]) n_t3
      have smN := smA.trans s1
      have hx := hx.same s1
      have hy := hy.same s1
      have hlf := hlf.same s1
      have f1 := f1.same s1
      have f2 := f2.same s1
      have hp := same_sqt s1 hp
      have hcc := same_sqt s1 hcc
      have hF := s1 _ _ hF
      have f3 : ExAt K (upd H176 t3 (HO.tup [.str "when", .int (i0 : Int), .int c0, lv, y])) (.when i0 c0 lf b0) (.ref t3) := ⟨t3, lv, y, rfl, SqT.of upd_same, hlf, hy⟩
      clear s1
      generalize upd H176 t3 (HO.tup [.str "when", .int (i0 : Int), .int c0, lv, y]) = H177 at smN hx hy hlf f1 f2 f3 hp hcc hF
      have smA := smN
      clear smN
      refine ⟨(by show 5 ≤ sizeLine; decide), fun t4 n_t4 => ?_⟩
      have s1 := same_new (o := HO.tup [.str "when", .int (i0 : Int), .int c0, x, .ref t3]) n_t4
      have smN := smA.trans s1
      have hx := hx.same s1
      have hy := hy.same s1
      have hlf := hlf.same s1
      have f1 := f1.same s1
      have f2 := f2.same s1
      have f3 := f3.same s1
      have hp := same_sqt s1 hp
      have hcc := same_sqt s1 hcc
      have hF := s1 _ _ hF
      have f4 : ExAt K (upd H177 t4 (HO.tup [.str "when", .int (i0 : Int), .int c0, x, .ref t3])) (.when i0 c0 a (.when i0 c0 lf b0)) (.ref t4) := ⟨t4, x, .ref t3, rfl, SqT.of upd_same, hx, f3⟩
      clear s1
      generalize upd H177 t4 (HO.tup [.str "when", .int (i0 : Int), .int c0, x, .ref t3]) = H178 at smN hx hy hlf f1 f2 f3 f4 hp hcc hF
      have smA := smN
      clear smN
      refine ⟨fl, _, _, rfl, rfl, hF, small1000 (by simp), ?_⟩
      have smN : Same H (upd H178 fl (.lst ([V.ref t2] ++ [V.ref t4]))) := fun b' o eb => by rw [upd_ne (ne_of_none eb nfl)]; exact smA _ _ eb
      have hx := hx.imp fun _ _ q => put_sqt (us' := ([V.ref t2] ++ [V.ref t4])) hF q
      have hy := hy.imp fun _ _ q => put_sqt (us' := ([V.ref t2] ++ [V.ref t4])) hF q
      have hlf := hlf.imp fun _ _ q => put_sqt (us' := ([V.ref t2] ++ [V.ref t4])) hF q
      have f1 := f1.imp fun _ _ q => put_sqt (us' := ([V.ref t2] ++ [V.ref t4])) hF q
      have f2 := f2.imp fun _ _ q => put_sqt (us' := ([V.ref t2] ++ [V.ref t4])) hF q
      have f3 := f3.imp fun _ _ q => put_sqt (us' := ([V.ref t2] ++ [V.ref t4])) hF q
      have f4 := f4.imp fun _ _ q => put_sqt (us' := ([V.ref t2] ++ [V.ref t4])) hF q
      have hp := put_sqt (us' := ([V.ref t2] ++ [V.ref t4])) hF hp
      have hcc := put_sqt (us' := ([V.ref t2] ++ [V.ref t4])) hF hcc
      have hF2 : (upd H178 fl (.lst ([V.ref t2] ++ [V.ref t4]))) fl = some (.lst [V.ref t2, .ref t4]) := upd_same
      clear hF
      generalize upd H178 fl (.lst ([V.ref t2] ++ [V.ref t4])) = H179 at smN hF2 hx hy hlf f1 f2 f3 f4 hp hcc
      have smA := smN
      have hF := hF2
      clear smN hF2
      refine ⟨.ref fl, rfl, q _ fl _ [.when i0 c0 (.when i0 c0 a lf) b0, .when i0 c0 a (.when i0 c0 lf b0)] smA nfl hF ⟨f2, f4, trivial⟩ (by simp) fun e' h' => ?_⟩
      simp only [List.mem_cons, List.not_mem_nil, or_false] at h'
      rcases h' with rfl | rfl
      · exact ⟨⟨oi, oc, ⟨oi, oc, oa, olf⟩, ob⟩, by simp only [Ex.dep]; omega, sm_when1⟩
      · exact ⟨⟨oi, oc, oa, oi, oc, olf, ob⟩, by simp only [Ex.dep]; omega, sm_when2⟩
    | whr i0 c0 a b0 =>
      obtain ⟨p, x, y, rfl, hp, hx, hy⟩ := he
      obtain ⟨oi, oc, oa, ob⟩ := ho
      refine ⟨.ref p, rfl, p, _, 0, _, rfl, rfl, hp, rfl, (by show 0 ≤ sizeLine; decide), fun fl nfl => ⟨_, _, rfl, ?_⟩⟩
      have n_fl := nfl
      have s1 := same_new (o := HO.lst []) n_fl
      have smN := smA.trans s1
      have hx := hx.same s1
      have hy := hy.same s1
      have hlf := hlf.same s1
      have hp := same_sqt s1 hp
      have hF : (upd H fl (HO.lst [])) fl = some (HO.lst []) := upd_same
      clear s1
      generalize upd H fl (HO.lst []) = H180 at smN hx hy hlf hp hF
      have smA := smN
      clear smN
      refine ⟨.ref p, rfl, 2, rfl, p, _, -2, _, rfl, rfl, hp, rfl, .ref p, rfl, 1, rfl, p, _, -1, _, rfl, rfl, hp, rfl, _, _, rfl, ?_⟩
      refine ⟨_, rfl, (by show 3 ≤ sizeLine; decide), fun w25 n_w25 => ⟨w25, _, rfl, .inr (SqT.of upd_same), rfl, rfl, _, rfl, iteFF rfl ?_⟩⟩
      have s1 := same_new (o := HO.tup [.str "sum", .str "least", .str "most"]) n_w25
      have smN := smA.trans s1
      have hx := hx.same s1
      have hy := hy.same s1
      have hlf := hlf.same s1
      have hp := same_sqt s1 hp
      have hF := s1 _ _ hF
      clear s1
      generalize upd H180 w25 (HO.tup [.str "sum", .str "least", .str "most"]) = H181 at smN hx hy hlf hp hF
      have smA := smN
      clear smN
      refine ⟨_, rfl, rfl, _, rfl, iteFF rfl ?_⟩
      refine ⟨_, rfl, rfl, _, rfl, iteFF rfl ?_⟩
      refine ⟨_, rfl, rfl, _, rfl, iteFF rfl ?_⟩
      refine ⟨_, rfl, rfl, _, rfl, iteFF rfl ?_⟩
      refine ⟨fun σ H' => σ = [some (.ref p), some lv, some (.str "where"), some (.ref fl), some x, some y, none, none] ∧ H' = H181, ⟨_, rfl, rfl, _, rfl, iteFF rfl (iteFF rfl ⟨rfl, rfl⟩)⟩, ?_⟩
      rintro σ H182 ⟨rfl, rfl⟩
      refine ⟨_, rfl, (by show 2 ≤ sizeLine; decide), fun w26 n_w26 => ⟨w26, _, rfl, .inr (SqT.of upd_same), rfl, rfl, _, rfl, iteFF rfl (iteFF rfl ?_)⟩⟩
      have s1 := same_new (o := HO.tup [.str "times", .str "by"]) n_w26
      have smN := smA.trans s1
      have hx := hx.same s1
      have hy := hy.same s1
      have hlf := hlf.same s1
      have hp := same_sqt s1 hp
      have hF := s1 _ _ hF
      clear s1
      generalize upd H182 w26 (HO.tup [.str "times", .str "by"]) = H183 at smN hx hy hlf hp hF
      have smA := smN
      clear smN
      refine ⟨_, rfl, (by show 2 ≤ sizeLine; decide), fun w27 n_w27 => ⟨w27, _, rfl, .inr (SqT.of upd_same), rfl, rfl, _, rfl, iteTT rfl ?_⟩⟩
      have s1 := same_new (o := HO.tup [.str "when", .str "where"]) n_w27
      have smN := smA.trans s1
      have hx := hx.same s1
      have hy := hy.same s1
      have hlf := hlf.same s1
      have hp := same_sqt s1 hp
      have hF := s1 _ _ hF
      clear s1
      generalize upd H183 w27 (HO.tup [.str "when", .str "where"]) = H184 at smN hx hy hlf hp hF
      have smA := smN
      clear smN
      refine ⟨.ref p, rfl, 1, rfl, 3, rfl, p, _, rfl, hp, (by show ¬ (1 = 0 ∧ 3 = 5); decide), fun cc n_cc => ?_⟩
      have s1 := same_new (o := HO.tup (cutV [V.str "where", V.int (i0 : Int), V.int c0, x, y] (some 1) (some 3))) n_cc
      have smN := smA.trans s1
      have hx := hx.same s1
      have hy := hy.same s1
      have hlf := hlf.same s1
      have hp := same_sqt s1 hp
      have hF := s1 _ _ hF
      have hcc : SqT K (upd H184 cc (HO.tup (cutV [V.str "where", V.int (i0 : Int), V.int c0, x, y] (some 1) (some 3)))) cc ([V.int (i0 : Int), V.int c0]) := SqT.of upd_same
      clear s1
      generalize upd H184 cc (HO.tup (cutV [V.str "where", V.int (i0 : Int), V.int c0, x, y] (some 1) (some 3))) = H185 at smN hx hy hlf hp hcc hF
      have smA := smN
      clear smN
      refine ⟨cc, _, rfl, hcc, rfl, _, _, rfl, _, _, rfl, rfl, ?_⟩
      refine ⟨.ref fl, rfl, .inl ⟨rfl, _, SqL.of hF⟩, ?_⟩
      refine ⟨_, rfl, _, rfl, _, rfl, ?_⟩
      refine ⟨_, rfl, _, rfl, _, rfl, x, rfl, lv, rfl, (by show 5 ≤ sizeLine; decide), fun t1 n_t1 => ?_⟩
      have s1 := same_new (o := HO.tup [.str "where", .int (i0 : Int), .int c0, x, lv]) n_t1
      have smN := smA.trans s1
      have hx := hx.same s1
      have hy := hy.same s1
      have hlf := hlf.same s1
      have hp := same_sqt s1 hp
      have hcc := same_sqt s1 hcc
      have hF := s1 _ _ hF
      have f1 : ExAt K (upd H185 t1 (HO.tup [.str "where", .int (i0 : Int), .int c0, x, lv])) (.whr i0 c0 a lf) (.ref t1) := ⟨t1, x, lv, rfl, SqT.of upd_same, hx, hlf⟩
      clear s1
      generalize upd H185 t1 (HO.tup [.str "where", .int (i0 : Int), .int c0, x, lv]) = H186 at smN hx hy hlf f1 hp hcc hF
      have smA := smN
      clear smN
      refine ⟨y, rfl, (by show 5 ≤ sizeLine; decide), fun t2 n_t2 => ?_⟩
      have s1 := same_new (o := HO.tup [.str "where", .int (i0 : Int), .int c0, .ref t1, y]) n_t2
      have smN := smA.trans s1
      have hx := hx.same s1
      have hy := hy.same s1
      have hlf := hlf.same s1
      have f1 := f1.same s1
      have hp := same_sqt s1 hp
      have hcc := same_sqt s1 hcc
      have hF := s1 _ _ hF
      have f2 : ExAt K (upd H186 t2 (HO.tup [.str "where", .int (i0 : Int), .int c0, .ref t1, y])) (.whr i0 c0 (.whr i0 c0 a lf) b0) (.ref t2) := ⟨t2, .ref t1, y, rfl, SqT.of upd_same, f1, hy⟩
      clear s1
      generalize upd H186 t2 (HO.tup [.str "where", .int (i0 : Int), .int c0, .ref t1, y]) = H187 at smN hx hy hlf f1 f2 hp hcc hF
      have smA := smN
      clear smN
      refine ⟨fl, _, _, rfl, rfl, hF, small1000 (by simp), ?_⟩
      have smN : Same H (upd H187 fl (.lst ([] ++ [V.ref t2]))) := fun b' o eb => by rw [upd_ne (ne_of_none eb nfl)]; exact smA _ _ eb
      have hx := hx.imp fun _ _ q => put_sqt (us' := ([] ++ [V.ref t2])) hF q
      have hy := hy.imp fun _ _ q => put_sqt (us' := ([] ++ [V.ref t2])) hF q
      have hlf := hlf.imp fun _ _ q => put_sqt (us' := ([] ++ [V.ref t2])) hF q
      have f1 := f1.imp fun _ _ q => put_sqt (us' := ([] ++ [V.ref t2])) hF q
      have f2 := f2.imp fun _ _ q => put_sqt (us' := ([] ++ [V.ref t2])) hF q
      have hp := put_sqt (us' := ([] ++ [V.ref t2])) hF hp
      have hcc := put_sqt (us' := ([] ++ [V.ref t2])) hF hcc
      have hF2 : (upd H187 fl (.lst ([] ++ [V.ref t2]))) fl = some (.lst [V.ref t2]) := upd_same
      clear hF
      generalize upd H187 fl (.lst ([] ++ [V.ref t2])) = H188 at smN hF2 hx hy hlf f1 f2 hp hcc
      have smA := smN
      have hF := hF2
      clear smN hF2
      refine ⟨.ref fl, rfl, .inl ⟨rfl, _, SqL.of hF⟩, ?_⟩
      refine ⟨_, rfl, _, rfl, _, rfl, x, rfl, ?_⟩
      refine ⟨_, rfl, _, rfl, _, rfl, lv, rfl, y, rfl, (by show 5 ≤ sizeLine; decide), fun t3 n_t3 => ?_⟩
      have s1 := same_new (o := HO.tup [.str "where", .int (i0 : Int), .int c0, lv, y]) n_t3
      have smN := smA.trans s1
      have hx := hx.same s1
      have hy := hy.same s1
      have hlf := hlf.same s1
      have f1 := f1.same s1
      have f2 := f2.same s1
      have hp := same_sqt s1 hp
      have hcc := same_sqt s1 hcc
      have hF := s1 _ _ hF
      have f3 : ExAt K (upd H188 t3 (HO.tup [.str "where", .int (i0 : Int), .int c0, lv, y])) (.whr i0 c0 lf b0) (.ref t3) := ⟨t3, lv, y, rfl, SqT.of upd_same, hlf, hy⟩
      clear s1
      generalize upd H188 t3 (HO.tup [.str "where", .int (i0 : Int), .int c0, lv, y]) = H189 at smN hx hy hlf f1 f2 f3 hp hcc hF
      have smA := smN
      clear smN
      refine ⟨(by show 5 ≤ sizeLine; decide), fun t4 n_t4 => ?_⟩
      have s1 := same_new (o := HO.tup [.str "where", .int (i0 : Int), .int c0, x, .ref t3]) n_t4
      have smN := smA.trans s1
      have hx := hx.same s1
      have hy := hy.same s1
      have hlf := hlf.same s1
      have f1 := f1.same s1
      have f2 := f2.same s1
      have f3 := f3.same s1
      have hp := same_sqt s1 hp
      have hcc := same_sqt s1 hcc
      have hF := s1 _ _ hF
      have f4 : ExAt K (upd H189 t4 (HO.tup [.str "where", .int (i0 : Int), .int c0, x, .ref t3])) (.whr i0 c0 a (.whr i0 c0 lf b0)) (.ref t4) := ⟨t4, x, .ref t3, rfl, SqT.of upd_same, hx, f3⟩
      clear s1
      generalize upd H189 t4 (HO.tup [.str "where", .int (i0 : Int), .int c0, x, .ref t3]) = H190 at smN hx hy hlf f1 f2 f3 f4 hp hcc hF
      have smA := smN
      clear smN
      refine ⟨fl, _, _, rfl, rfl, hF, small1000 (by simp), ?_⟩
      have smN : Same H (upd H190 fl (.lst ([V.ref t2] ++ [V.ref t4]))) := fun b' o eb => by rw [upd_ne (ne_of_none eb nfl)]; exact smA _ _ eb
      have hx := hx.imp fun _ _ q => put_sqt (us' := ([V.ref t2] ++ [V.ref t4])) hF q
      have hy := hy.imp fun _ _ q => put_sqt (us' := ([V.ref t2] ++ [V.ref t4])) hF q
      have hlf := hlf.imp fun _ _ q => put_sqt (us' := ([V.ref t2] ++ [V.ref t4])) hF q
      have f1 := f1.imp fun _ _ q => put_sqt (us' := ([V.ref t2] ++ [V.ref t4])) hF q
      have f2 := f2.imp fun _ _ q => put_sqt (us' := ([V.ref t2] ++ [V.ref t4])) hF q
      have f3 := f3.imp fun _ _ q => put_sqt (us' := ([V.ref t2] ++ [V.ref t4])) hF q
      have f4 := f4.imp fun _ _ q => put_sqt (us' := ([V.ref t2] ++ [V.ref t4])) hF q
      have hp := put_sqt (us' := ([V.ref t2] ++ [V.ref t4])) hF hp
      have hcc := put_sqt (us' := ([V.ref t2] ++ [V.ref t4])) hF hcc
      have hF2 : (upd H190 fl (.lst ([V.ref t2] ++ [V.ref t4]))) fl = some (.lst [V.ref t2, .ref t4]) := upd_same
      clear hF
      generalize upd H190 fl (.lst ([V.ref t2] ++ [V.ref t4])) = H191 at smN hF2 hx hy hlf f1 f2 f3 f4 hp hcc
      have smA := smN
      have hF := hF2
      clear smN hF2
      refine ⟨.ref fl, rfl, q _ fl _ [.whr i0 c0 (.whr i0 c0 a lf) b0, .whr i0 c0 a (.whr i0 c0 lf b0)] smA nfl hF ⟨f2, f4, trivial⟩ (by simp) fun e' h' => ?_⟩
      simp only [List.mem_cons, List.not_mem_nil, or_false] at h'
      rcases h' with rfl | rfl
      · exact ⟨⟨oi, oc, ⟨oi, oc, oa, olf⟩, ob⟩, by simp only [Ex.dep]; omega, sm_whr1⟩
      · exact ⟨⟨oi, oc, oa, oi, oc, olf, ob⟩, by simp only [Ex.dep]; omega, sm_whr2⟩
    | times f0 a =>
      obtain ⟨p, x, rfl, hp, hx⟩ := he
      obtain ⟨oi, oa⟩ := ho
      refine ⟨.ref p, rfl, p, _, 0, _, rfl, rfl, hp, rfl, (by show 0 ≤ sizeLine; decide), fun fl nfl => ⟨_, _, rfl, ?_⟩⟩
      have n_fl := nfl
      have s1 := same_new (o := HO.lst []) n_fl
      have smN := smA.trans s1
      have hx := hx.same s1
      have hlf := hlf.same s1
      have hp := same_sqt s1 hp
      have hF : (upd H fl (HO.lst [])) fl = some (HO.lst []) := upd_same
      clear s1
      generalize upd H fl (HO.lst []) = H192 at smN hx hlf hp hF
      have smA := smN
      clear smN
      refine ⟨.ref p, rfl, 2, rfl, p, _, -2, _, rfl, rfl, hp, rfl, .ref p, rfl, 1, rfl, p, _, -1, _, rfl, rfl, hp, rfl, _, _, rfl, ?_⟩
      refine ⟨_, rfl, (by show 3 ≤ sizeLine; decide), fun w28 n_w28 => ⟨w28, _, rfl, .inr (SqT.of upd_same), rfl, rfl, _, rfl, iteFF rfl ?_⟩⟩
      have s1 := same_new (o := HO.tup [.str "sum", .str "least", .str "most"]) n_w28
      have smN := smA.trans s1
      have hx := hx.same s1
      have hlf := hlf.same s1
      have hp := same_sqt s1 hp
      have hF := s1 _ _ hF
      clear s1
      generalize upd H192 w28 (HO.tup [.str "sum", .str "least", .str "most"]) = H193 at smN hx hlf hp hF
      have smA := smN
      clear smN
      refine ⟨_, rfl, rfl, _, rfl, iteFF rfl ?_⟩
      refine ⟨_, rfl, rfl, _, rfl, iteFF rfl ?_⟩
      refine ⟨_, rfl, rfl, _, rfl, iteFF rfl ?_⟩
      refine ⟨_, rfl, rfl, _, rfl, iteFF rfl ?_⟩
      refine ⟨fun σ H' => ∃ us es, σ = [some (.ref p), some lv, some (.str "times"), some (.ref fl), some (.int f0), some x, none, none] ∧ Same H H' ∧ SqT K H' p [.str "times", .int f0, x] ∧ ExAt K H' a x ∧ H' fl = some (.lst us) ∧ RowsAt K H' us es ∧ es.length ≤ 2 ∧ ∀ e' ∈ es, Fit many (.times f0 a) e', ?_, ?_⟩
      · refine ⟨_, rfl, rfl, _, rfl, iteTT rfl ⟨.int f0, rfl, _, rfl, _, _, rfl, rfl, _, rfl, iteD (fun cgt => ?_) (fun cgt => ?_)⟩⟩
        · have cgt : (-9 : Int) < f0 := cgt
          refine ⟨.ref fl, rfl, .inl ⟨rfl, _, SqL.of hF⟩, ?_⟩
          refine ⟨_, rfl, .int f0, rfl, _, _, rfl, rfl, x, rfl, (by show 3 ≤ sizeLine; decide), fun t1 n_t1 => ?_⟩
          have s1 := same_new (o := HO.tup [.str "times", .int (f0 - 1), x]) n_t1
          have smN := smA.trans s1
          have hx := hx.same s1
          have hlf := hlf.same s1
          have hp := same_sqt s1 hp
          have hF := s1 _ _ hF
          have f1 : ExAt K (upd H193 t1 (HO.tup [.str "times", .int (f0 - 1), x])) (.times (f0 - 1) a) (.ref t1) := ⟨t1, x, rfl, SqT.of upd_same, hx⟩
          clear s1
          generalize upd H193 t1 (HO.tup [.str "times", .int (f0 - 1), x]) = H194 at smN hx hlf f1 hp hF
          have smA := smN
          clear smN
          refine ⟨x, rfl, (by show 3 ≤ sizeLine; decide), fun t2 n_t2 => ?_⟩
          have s1 := same_new (o := HO.tup [.str "sum", .ref t1, x]) n_t2
          have smN := smA.trans s1
          have hx := hx.same s1
          have hlf := hlf.same s1
          have f1 := f1.same s1
          have hp := same_sqt s1 hp
          have hF := s1 _ _ hF
          have f2 : ExAt K (upd H194 t2 (HO.tup [.str "sum", .ref t1, x])) (.two .sum (.times (f0 - 1) a) a) (.ref t2) := ⟨t2, .ref t1, x, rfl, SqT.of upd_same, f1, hx⟩
          clear s1
          generalize upd H194 t2 (HO.tup [.str "sum", .ref t1, x]) = H195 at smN hx hlf f1 f2 hp hF
          have smA := smN
          clear smN
          refine ⟨fl, _, _, rfl, rfl, hF, small1000 (by simp), ?_⟩
          have smN : Same H (upd H195 fl (.lst ([] ++ [V.ref t2]))) := fun b' o eb => by rw [upd_ne (ne_of_none eb nfl)]; exact smA _ _ eb
          have hx := hx.imp fun _ _ q => put_sqt (us' := ([] ++ [V.ref t2])) hF q
          have hlf := hlf.imp fun _ _ q => put_sqt (us' := ([] ++ [V.ref t2])) hF q
          have f1 := f1.imp fun _ _ q => put_sqt (us' := ([] ++ [V.ref t2])) hF q
          have f2 := f2.imp fun _ _ q => put_sqt (us' := ([] ++ [V.ref t2])) hF q
          have hp := put_sqt (us' := ([] ++ [V.ref t2])) hF hp
          have hF2 : (upd H195 fl (.lst ([] ++ [V.ref t2]))) fl = some (.lst [V.ref t2]) := upd_same
          clear hF
          generalize upd H195 fl (.lst ([] ++ [V.ref t2])) = H196 at smN hF2 hx hlf f1 f2 hp
          have smA := smN
          have hF := hF2
          clear smN hF2
          refine ⟨_, [.two .sum (.times (f0 - 1) a) a], rfl, smA, hp, hx, hF, ⟨f2, trivial⟩, by simp, fun e' h' => ?_⟩
          rw [List.mem_singleton.mp h']
          exact ⟨⟨⟨⟨by omega, by omega⟩, oa⟩, oa⟩, by simp only [Ex.dep]; omega, sm_times⟩
        · exact ⟨_, [], rfl, smA, hp, hx, hF, trivial, by simp, fun e' h' => by cases h'⟩
      rintro σ HM ⟨us, es, rfl, smM, hpM, hxM, hFM, rowsM, lenM, fitM⟩
      clear smA hp hx hlf hF
      have smA := smM
      have hp := hpM
      have hx := hxM
      have hF := hFM
      have rw0 := rowsM
      have ulen := rowsM.len
      clear smM hpM hxM hFM rowsM
      refine ⟨_, rfl, (by show 2 ≤ sizeLine; decide), fun w29 n_w29 => ⟨w29, _, rfl, .inr (SqT.of upd_same), rfl, rfl, _, rfl, iteTT rfl ?_⟩⟩
      have s1 := same_new (o := HO.tup [.str "times", .str "by"]) n_w29
      have smN := smA.trans s1
      have hx := hx.same s1
      have rw0 := rw0.same s1
      have hp := same_sqt s1 hp
      have hF := s1 _ _ hF
      clear s1
      generalize upd HM w29 (HO.tup [.str "times", .str "by"]) = H197 at smN hx rw0 hp hF
      have smA := smN
      clear smN
      have hcs : (∃ (w1 : W4) (a1 a2 : Ex), (w1 = .sum ∨ w1 = .less) ∧ a = .two w1 a1 a2) ∨ inV (V.str (wordOf a)) [V.str "sum", V.str "less"] = false := by
        cases a with
        | two w1 a1 a2 =>
          cases w1 with
          | sum => exact .inl ⟨_, a1, a2, .inl rfl, rfl⟩
          | less => exact .inl ⟨_, a1, a2, .inr rfl, rfl⟩
          | least => exact .inr rfl
          | most => exact .inr rfl
        | fig _ => exact .inr rfl
        | reg _ => exact .inr rfl
        | share _ => exact .inr rfl
        | times _ _ => exact .inr rfl
        | «by» _ _ => exact .inr rfl
        | when _ _ _ _ => exact .inr rfl
        | whr _ _ _ _ => exact .inr rfl
      rcases hcs with ⟨w1, a1, a2, hw1, rfl⟩ | hno
      · obtain ⟨pa, x1, x2, rfl, hpa, hx1, hx2⟩ := hx
        refine ⟨.ref pa, rfl, pa, _, 0, _, rfl, rfl, hpa, rfl, (by show 2 ≤ sizeLine; decide), fun w30 n_w30 => ⟨w30, _, rfl, .inr (SqT.of upd_same), rfl, rfl, _, rfl, iteTT (by rcases hw1 with rfl | rfl <;> rfl) ?_⟩⟩
        have s1 := same_new (o := HO.tup [.str "sum", .str "less"]) n_w30
        have smN := smA.trans s1
        have rw0 := rw0.same s1
        have hx1 := hx1.same s1
        have hx2 := hx2.same s1
        have hp := same_sqt s1 hp
        have hpa := same_sqt s1 hpa
        have hF := s1 _ _ hF
        clear s1
        generalize upd H197 w30 (HO.tup [.str "sum", .str "less"]) = H198 at smN rw0 hx1 hx2 hp hpa hF
        have smA := smN
        clear smN
        refine ⟨.ref fl, rfl, .inl ⟨rfl, _, SqL.of hF⟩, ?_⟩
        refine ⟨.ref pa, rfl, pa, _, 0, _, rfl, rfl, hpa, rfl, ?_⟩
        refine ⟨_, rfl, _, rfl, .ref pa, rfl, pa, _, 1, _, rfl, rfl, hpa, rfl, (by show 3 ≤ sizeLine; decide), fun t1 n_t1 => ?_⟩
        have s1 := same_new (o := HO.tup [.str "times", .int f0, x1]) n_t1
        have smN := smA.trans s1
        have rw0 := rw0.same s1
        have hx1 := hx1.same s1
        have hx2 := hx2.same s1
        have hp := same_sqt s1 hp
        have hpa := same_sqt s1 hpa
        have hF := s1 _ _ hF
        have f1 : ExAt K (upd H198 t1 (HO.tup [.str "times", .int f0, x1])) (.times f0 a1) (.ref t1) := ⟨t1, x1, rfl, SqT.of upd_same, hx1⟩
        clear s1
        generalize upd H198 t1 (HO.tup [.str "times", .int f0, x1]) = H199 at smN rw0 hx1 hx2 f1 hp hpa hF
        have smA := smN
        clear smN
        refine ⟨_, rfl, _, rfl, .ref pa, rfl, pa, _, 2, _, rfl, rfl, hpa, rfl, (by show 3 ≤ sizeLine; decide), fun t2 n_t2 => ?_⟩
        have s1 := same_new (o := HO.tup [.str "times", .int f0, x2]) n_t2
        have smN := smA.trans s1
        have rw0 := rw0.same s1
        have hx1 := hx1.same s1
        have hx2 := hx2.same s1
        have f1 := f1.same s1
        have hp := same_sqt s1 hp
        have hpa := same_sqt s1 hpa
        have hF := s1 _ _ hF
        have f2 : ExAt K (upd H199 t2 (HO.tup [.str "times", .int f0, x2])) (.times f0 a2) (.ref t2) := ⟨t2, x2, rfl, SqT.of upd_same, hx2⟩
        clear s1
        generalize upd H199 t2 (HO.tup [.str "times", .int f0, x2]) = H200 at smN rw0 hx1 hx2 f1 f2 hp hpa hF
        have smA := smN
        clear smN
        refine ⟨(by show 3 ≤ sizeLine; decide), fun t3 n_t3 => ?_⟩
        have s1 := same_new (o := HO.tup [.str (wn w1), .ref t1, .ref t2]) n_t3
        have smN := smA.trans s1
        have rw0 := rw0.same s1
        have hx1 := hx1.same s1
        have hx2 := hx2.same s1
        have f1 := f1.same s1
        have f2 := f2.same s1
        have hp := same_sqt s1 hp
        have hpa := same_sqt s1 hpa
        have hF := s1 _ _ hF
        have f3 : ExAt K (upd H200 t3 (HO.tup [.str (wn w1), .ref t1, .ref t2])) (.two w1 (.times f0 a1) (.times f0 a2)) (.ref t3) := ⟨t3, .ref t1, .ref t2, rfl, SqT.of upd_same, f1, f2⟩
        clear s1
        generalize upd H200 t3 (HO.tup [.str (wn w1), .ref t1, .ref t2]) = H201 at smN rw0 hx1 hx2 f1 f2 f3 hp hpa hF
        have smA := smN
        clear smN
        refine ⟨(by show 1 ≤ sizeLine; decide), fun l1 n_l1 => ?_⟩
        have s1 := same_new (o := HO.lst [.ref t3]) n_l1
        have smN := smA.trans s1
        have rw0 := rw0.same s1
        have hx1 := hx1.same s1
        have hx2 := hx2.same s1
        have f1 := f1.same s1
        have f2 := f2.same s1
        have f3 := f3.same s1
        have hp := same_sqt s1 hp
        have hpa := same_sqt s1 hpa
        have hF := s1 _ _ hF
        have hl1 : (upd H201 l1 (HO.lst [.ref t3])) l1 = some (HO.lst [.ref t3]) := upd_same
        clear s1
        generalize upd H201 l1 (HO.lst [.ref t3]) = H202 at smN rw0 hx1 hx2 f1 f2 f3 hp hpa hF hl1
        have smA := smN
        clear smN
        refine ⟨l1, 2, _, rfl, rfl, hl1, by decide, by decide, (by show 1 * 2 ≤ sizeLine; decide), fun l2 n_l2 => ?_⟩
        have s1 := same_new (o := HO.lst (List.replicate (2 : Int).toNat [V.ref t3]).flatten) n_l2
        have smN := smA.trans s1
        have rw0 := rw0.same s1
        have hx1 := hx1.same s1
        have hx2 := hx2.same s1
        have f1 := f1.same s1
        have f2 := f2.same s1
        have f3 := f3.same s1
        have hp := same_sqt s1 hp
        have hpa := same_sqt s1 hpa
        have hF := s1 _ _ hF
        have hl1 := s1 _ _ hl1
        have hl2 : (upd H202 l2 (HO.lst (List.replicate (2 : Int).toNat [V.ref t3]).flatten)) l2 = some (HO.lst [.ref t3, .ref t3]) := upd_same
        clear s1
        generalize upd H202 l2 (HO.lst (List.replicate (2 : Int).toNat [V.ref t3]).flatten) = H203 at smN rw0 hx1 hx2 f1 f2 f3 hp hpa hF hl1 hl2
        have smA := smN
        clear smN
        refine ⟨fl, l2, _, _, rfl, rfl, hF, hl2, Nat.le_of_lt (small1000 (by show us.length + 2 ≤ 1000; omega)), ?_⟩
        have smN : Same H (upd H203 fl (.lst (us ++ [V.ref t3, .ref t3]))) := fun b' o eb => by rw [upd_ne (ne_of_none eb nfl)]; exact smA _ _ eb
        have rw0 := rw0.imp fun _ _ q => put_sqt (us' := (us ++ [V.ref t3, .ref t3])) hF q
        have hx1 := hx1.imp fun _ _ q => put_sqt (us' := (us ++ [V.ref t3, .ref t3])) hF q
        have hx2 := hx2.imp fun _ _ q => put_sqt (us' := (us ++ [V.ref t3, .ref t3])) hF q
        have f1 := f1.imp fun _ _ q => put_sqt (us' := (us ++ [V.ref t3, .ref t3])) hF q
        have f2 := f2.imp fun _ _ q => put_sqt (us' := (us ++ [V.ref t3, .ref t3])) hF q
        have f3 := f3.imp fun _ _ q => put_sqt (us' := (us ++ [V.ref t3, .ref t3])) hF q
        have hp := put_sqt (us' := (us ++ [V.ref t3, .ref t3])) hF hp
        have hpa := put_sqt (us' := (us ++ [V.ref t3, .ref t3])) hF hpa
        have hF2 : (upd H203 fl (.lst (us ++ [V.ref t3, .ref t3]))) fl = some (.lst (us ++ [V.ref t3, .ref t3])) := upd_same
        clear hl1
        clear hl2
        clear hF
        generalize upd H203 fl (.lst (us ++ [V.ref t3, .ref t3])) = H204 at smN hF2 rw0 hx1 hx2 f1 f2 f3 hp hpa
        have smA := smN
        have hF := hF2
        clear smN hF2
        refine ⟨_, rfl, (by show 2 ≤ sizeLine; decide), fun w31 n_w31 => ⟨w31, _, rfl, .inr (SqT.of upd_same), rfl, rfl, _, rfl, iteFF rfl ?_⟩⟩
        have s1 := same_new (o := HO.tup [.str "when", .str "where"]) n_w31
        have smN := smA.trans s1
        have rw0 := rw0.same s1
        have hx1 := hx1.same s1
        have hx2 := hx2.same s1
        have f1 := f1.same s1
        have f2 := f2.same s1
        have f3 := f3.same s1
        have hp := same_sqt s1 hp
        have hpa := same_sqt s1 hpa
        have hF := s1 _ _ hF
        clear s1
        generalize upd H204 w31 (HO.tup [.str "when", .str "where"]) = H205 at smN rw0 hx1 hx2 f1 f2 f3 hp hpa hF
        have smA := smN
        clear smN
        refine ⟨.ref fl, rfl, q _ fl _ (es ++ [.two w1 (.times f0 a1) (.times f0 a2), .two w1 (.times f0 a1) (.times f0 a2)]) smA nfl hF (rw0.append ⟨f3, f3, trivial⟩) (by rw [List.length_append]; show es.length + 2 ≤ 20; omega) fun e' h' => ?_⟩
        rcases List.mem_append.mp h' with h' | h'
        · exact fitM e' h'
        · have h' : e' = .two w1 (.times f0 a1) (.times f0 a2) := by simpa using h'
          subst h'
          exact ⟨⟨⟨oi, oa.1⟩, oi, oa.2⟩, by simp only [Ex.dep]; omega, sm_times2 hw1⟩
      · obtain ⟨pa, xs, rfl, hpa, _, _⟩ := hx.rst
        refine ⟨.ref pa, rfl, pa, _, 0, _, rfl, rfl, hpa, at_of (j := 0) rfl rfl, (by show 2 ≤ sizeLine; decide), fun w32 n_w32 => ⟨w32, _, rfl, .inr (SqT.of upd_same), rfl, rfl, _, rfl, iteFF hno ?_⟩⟩
        have smB := smA.trans (same_new (o := .tup [.str "sum", .str "less"]) n_w32)
        have hFB := same_new (o := .tup [.str "sum", .str "less"]) n_w32 _ _ hF
        have rwB := rw0.same (same_new (o := .tup [.str "sum", .str "less"]) n_w32)
        refine ⟨_, rfl, (by show 2 ≤ sizeLine; decide), fun w33 n_w33 => ⟨w33, _, rfl, .inr (SqT.of upd_same), rfl, rfl, _, rfl, iteFF rfl ?_⟩⟩
        exact ⟨.ref fl, rfl, q _ fl us es (smB.trans (same_new n_w33)) nfl (same_new n_w33 _ _ hFB) (rwB.same (same_new n_w33)) (by omega) fitM⟩
    | «by» i0 a =>
      obtain ⟨p, x, rfl, hp, hx⟩ := he
      obtain ⟨oi, oa⟩ := ho
      refine ⟨.ref p, rfl, p, _, 0, _, rfl, rfl, hp, rfl, (by show 0 ≤ sizeLine; decide), fun fl nfl => ⟨_, _, rfl, ?_⟩⟩
      have n_fl := nfl
      have s1 := same_new (o := HO.lst []) n_fl
      have smN := smA.trans s1
      have hx := hx.same s1
      have hlf := hlf.same s1
      have hp := same_sqt s1 hp
      have hF : (upd H fl (HO.lst [])) fl = some (HO.lst []) := upd_same
      clear s1
      generalize upd H fl (HO.lst []) = H206 at smN hx hlf hp hF
      have smA := smN
      clear smN
      refine ⟨.ref p, rfl, 2, rfl, p, _, -2, _, rfl, rfl, hp, rfl, .ref p, rfl, 1, rfl, p, _, -1, _, rfl, rfl, hp, rfl, _, _, rfl, ?_⟩
      refine ⟨_, rfl, (by show 3 ≤ sizeLine; decide), fun w34 n_w34 => ⟨w34, _, rfl, .inr (SqT.of upd_same), rfl, rfl, _, rfl, iteFF rfl ?_⟩⟩
      have s1 := same_new (o := HO.tup [.str "sum", .str "least", .str "most"]) n_w34
      have smN := smA.trans s1
      have hx := hx.same s1
      have hlf := hlf.same s1
      have hp := same_sqt s1 hp
      have hF := s1 _ _ hF
      clear s1
      generalize upd H206 w34 (HO.tup [.str "sum", .str "least", .str "most"]) = H207 at smN hx hlf hp hF
      have smA := smN
      clear smN
      refine ⟨_, rfl, rfl, _, rfl, iteFF rfl ?_⟩
      refine ⟨_, rfl, rfl, _, rfl, iteFF rfl ?_⟩
      refine ⟨_, rfl, rfl, _, rfl, iteFF rfl ?_⟩
      refine ⟨_, rfl, rfl, _, rfl, iteFF rfl ?_⟩
      refine ⟨fun σ H' => ∃ us es, σ = [some (.ref p), some lv, some (.str "by"), some (.ref fl), some (.int (i0 : Int)), some x, none, none] ∧ Same H H' ∧ SqT K H' p [.str "by", .int (i0 : Int), x] ∧ ExAt K H' a x ∧ H' fl = some (.lst us) ∧ RowsAt K H' us es ∧ es.length ≤ 2 ∧ ∀ e' ∈ es, Fit many (.by i0 a) e', ?_, ?_⟩
      · exact ⟨_, rfl, rfl, _, rfl, iteFF rfl (iteFF rfl ⟨_, [], rfl, smA, hp, hx, hF, trivial, by simp, fun e' h' => by cases h'⟩)⟩
      rintro σ HM ⟨us, es, rfl, smM, hpM, hxM, hFM, rowsM, lenM, fitM⟩
      clear smA hp hx hlf hF
      have smA := smM
      have hp := hpM
      have hx := hxM
      have hF := hFM
      have rw0 := rowsM
      have ulen := rowsM.len
      clear smM hpM hxM hFM rowsM
      refine ⟨_, rfl, (by show 2 ≤ sizeLine; decide), fun w35 n_w35 => ⟨w35, _, rfl, .inr (SqT.of upd_same), rfl, rfl, _, rfl, iteTT rfl ?_⟩⟩
      have s1 := same_new (o := HO.tup [.str "times", .str "by"]) n_w35
      have smN := smA.trans s1
      have hx := hx.same s1
      have rw0 := rw0.same s1
      have hp := same_sqt s1 hp
      have hF := s1 _ _ hF
      clear s1
      generalize upd HM w35 (HO.tup [.str "times", .str "by"]) = H208 at smN hx rw0 hp hF
      have smA := smN
      clear smN
      have hcs : (∃ (w1 : W4) (a1 a2 : Ex), (w1 = .sum ∨ w1 = .less) ∧ a = .two w1 a1 a2) ∨ inV (V.str (wordOf a)) [V.str "sum", V.str "less"] = false := by
        cases a with
        | two w1 a1 a2 =>
          cases w1 with
          | sum => exact .inl ⟨_, a1, a2, .inl rfl, rfl⟩
          | less => exact .inl ⟨_, a1, a2, .inr rfl, rfl⟩
          | least => exact .inr rfl
          | most => exact .inr rfl
        | fig _ => exact .inr rfl
        | reg _ => exact .inr rfl
        | share _ => exact .inr rfl
        | times _ _ => exact .inr rfl
        | «by» _ _ => exact .inr rfl
        | when _ _ _ _ => exact .inr rfl
        | whr _ _ _ _ => exact .inr rfl
      rcases hcs with ⟨w1, a1, a2, hw1, rfl⟩ | hno
      · obtain ⟨pa, x1, x2, rfl, hpa, hx1, hx2⟩ := hx
        refine ⟨.ref pa, rfl, pa, _, 0, _, rfl, rfl, hpa, rfl, (by show 2 ≤ sizeLine; decide), fun w36 n_w36 => ⟨w36, _, rfl, .inr (SqT.of upd_same), rfl, rfl, _, rfl, iteTT (by rcases hw1 with rfl | rfl <;> rfl) ?_⟩⟩
        have s1 := same_new (o := HO.tup [.str "sum", .str "less"]) n_w36
        have smN := smA.trans s1
        have rw0 := rw0.same s1
        have hx1 := hx1.same s1
        have hx2 := hx2.same s1
        have hp := same_sqt s1 hp
        have hpa := same_sqt s1 hpa
        have hF := s1 _ _ hF
        clear s1
        generalize upd H208 w36 (HO.tup [.str "sum", .str "less"]) = H209 at smN rw0 hx1 hx2 hp hpa hF
        have smA := smN
        clear smN
        refine ⟨.ref fl, rfl, .inl ⟨rfl, _, SqL.of hF⟩, ?_⟩
        refine ⟨.ref pa, rfl, pa, _, 0, _, rfl, rfl, hpa, rfl, ?_⟩
        refine ⟨_, rfl, _, rfl, .ref pa, rfl, pa, _, 1, _, rfl, rfl, hpa, rfl, (by show 3 ≤ sizeLine; decide), fun t1 n_t1 => ?_⟩
        have s1 := same_new (o := HO.tup [.str "by", .int (i0 : Int), x1]) n_t1
        have smN := smA.trans s1
        have rw0 := rw0.same s1
        have hx1 := hx1.same s1
        have hx2 := hx2.same s1
        have hp := same_sqt s1 hp
        have hpa := same_sqt s1 hpa
        have hF := s1 _ _ hF
        have f1 : ExAt K (upd H209 t1 (HO.tup [.str "by", .int (i0 : Int), x1])) (.by i0 a1) (.ref t1) := ⟨t1, x1, rfl, SqT.of upd_same, hx1⟩
        clear s1
        generalize upd H209 t1 (HO.tup [.str "by", .int (i0 : Int), x1]) = H210 at smN rw0 hx1 hx2 f1 hp hpa hF
        have smA := smN
        clear smN
        refine ⟨_, rfl, _, rfl, .ref pa, rfl, pa, _, 2, _, rfl, rfl, hpa, rfl, (by show 3 ≤ sizeLine; decide), fun t2 n_t2 => ?_⟩
        have s1 := same_new (o := HO.tup [.str "by", .int (i0 : Int), x2]) n_t2
        have smN := smA.trans s1
        have rw0 := rw0.same s1
        have hx1 := hx1.same s1
        have hx2 := hx2.same s1
        have f1 := f1.same s1
        have hp := same_sqt s1 hp
        have hpa := same_sqt s1 hpa
        have hF := s1 _ _ hF
        have f2 : ExAt K (upd H210 t2 (HO.tup [.str "by", .int (i0 : Int), x2])) (.by i0 a2) (.ref t2) := ⟨t2, x2, rfl, SqT.of upd_same, hx2⟩
        clear s1
        generalize upd H210 t2 (HO.tup [.str "by", .int (i0 : Int), x2]) = H211 at smN rw0 hx1 hx2 f1 f2 hp hpa hF
        have smA := smN
        clear smN
        refine ⟨(by show 3 ≤ sizeLine; decide), fun t3 n_t3 => ?_⟩
        have s1 := same_new (o := HO.tup [.str (wn w1), .ref t1, .ref t2]) n_t3
        have smN := smA.trans s1
        have rw0 := rw0.same s1
        have hx1 := hx1.same s1
        have hx2 := hx2.same s1
        have f1 := f1.same s1
        have f2 := f2.same s1
        have hp := same_sqt s1 hp
        have hpa := same_sqt s1 hpa
        have hF := s1 _ _ hF
        have f3 : ExAt K (upd H211 t3 (HO.tup [.str (wn w1), .ref t1, .ref t2])) (.two w1 (.by i0 a1) (.by i0 a2)) (.ref t3) := ⟨t3, .ref t1, .ref t2, rfl, SqT.of upd_same, f1, f2⟩
        clear s1
        generalize upd H211 t3 (HO.tup [.str (wn w1), .ref t1, .ref t2]) = H212 at smN rw0 hx1 hx2 f1 f2 f3 hp hpa hF
        have smA := smN
        clear smN
        refine ⟨(by show 1 ≤ sizeLine; decide), fun l1 n_l1 => ?_⟩
        have s1 := same_new (o := HO.lst [.ref t3]) n_l1
        have smN := smA.trans s1
        have rw0 := rw0.same s1
        have hx1 := hx1.same s1
        have hx2 := hx2.same s1
        have f1 := f1.same s1
        have f2 := f2.same s1
        have f3 := f3.same s1
        have hp := same_sqt s1 hp
        have hpa := same_sqt s1 hpa
        have hF := s1 _ _ hF
        have hl1 : (upd H212 l1 (HO.lst [.ref t3])) l1 = some (HO.lst [.ref t3]) := upd_same
        clear s1
        generalize upd H212 l1 (HO.lst [.ref t3]) = H213 at smN rw0 hx1 hx2 f1 f2 f3 hp hpa hF hl1
        have smA := smN
        clear smN
        refine ⟨l1, 2, _, rfl, rfl, hl1, by decide, by decide, (by show 1 * 2 ≤ sizeLine; decide), fun l2 n_l2 => ?_⟩
        have s1 := same_new (o := HO.lst (List.replicate (2 : Int).toNat [V.ref t3]).flatten) n_l2
        have smN := smA.trans s1
        have rw0 := rw0.same s1
        have hx1 := hx1.same s1
        have hx2 := hx2.same s1
        have f1 := f1.same s1
        have f2 := f2.same s1
        have f3 := f3.same s1
        have hp := same_sqt s1 hp
        have hpa := same_sqt s1 hpa
        have hF := s1 _ _ hF
        have hl1 := s1 _ _ hl1
        have hl2 : (upd H213 l2 (HO.lst (List.replicate (2 : Int).toNat [V.ref t3]).flatten)) l2 = some (HO.lst [.ref t3, .ref t3]) := upd_same
        clear s1
        generalize upd H213 l2 (HO.lst (List.replicate (2 : Int).toNat [V.ref t3]).flatten) = H214 at smN rw0 hx1 hx2 f1 f2 f3 hp hpa hF hl1 hl2
        have smA := smN
        clear smN
        refine ⟨fl, l2, _, _, rfl, rfl, hF, hl2, Nat.le_of_lt (small1000 (by show us.length + 2 ≤ 1000; omega)), ?_⟩
        have smN : Same H (upd H214 fl (.lst (us ++ [V.ref t3, .ref t3]))) := fun b' o eb => by rw [upd_ne (ne_of_none eb nfl)]; exact smA _ _ eb
        have rw0 := rw0.imp fun _ _ q => put_sqt (us' := (us ++ [V.ref t3, .ref t3])) hF q
        have hx1 := hx1.imp fun _ _ q => put_sqt (us' := (us ++ [V.ref t3, .ref t3])) hF q
        have hx2 := hx2.imp fun _ _ q => put_sqt (us' := (us ++ [V.ref t3, .ref t3])) hF q
        have f1 := f1.imp fun _ _ q => put_sqt (us' := (us ++ [V.ref t3, .ref t3])) hF q
        have f2 := f2.imp fun _ _ q => put_sqt (us' := (us ++ [V.ref t3, .ref t3])) hF q
        have f3 := f3.imp fun _ _ q => put_sqt (us' := (us ++ [V.ref t3, .ref t3])) hF q
        have hp := put_sqt (us' := (us ++ [V.ref t3, .ref t3])) hF hp
        have hpa := put_sqt (us' := (us ++ [V.ref t3, .ref t3])) hF hpa
        have hF2 : (upd H214 fl (.lst (us ++ [V.ref t3, .ref t3]))) fl = some (.lst (us ++ [V.ref t3, .ref t3])) := upd_same
        clear hl1
        clear hl2
        clear hF
        generalize upd H214 fl (.lst (us ++ [V.ref t3, .ref t3])) = H215 at smN hF2 rw0 hx1 hx2 f1 f2 f3 hp hpa
        have smA := smN
        have hF := hF2
        clear smN hF2
        refine ⟨_, rfl, (by show 2 ≤ sizeLine; decide), fun w37 n_w37 => ⟨w37, _, rfl, .inr (SqT.of upd_same), rfl, rfl, _, rfl, iteFF rfl ?_⟩⟩
        have s1 := same_new (o := HO.tup [.str "when", .str "where"]) n_w37
        have smN := smA.trans s1
        have rw0 := rw0.same s1
        have hx1 := hx1.same s1
        have hx2 := hx2.same s1
        have f1 := f1.same s1
        have f2 := f2.same s1
        have f3 := f3.same s1
        have hp := same_sqt s1 hp
        have hpa := same_sqt s1 hpa
        have hF := s1 _ _ hF
        clear s1
        generalize upd H215 w37 (HO.tup [.str "when", .str "where"]) = H216 at smN rw0 hx1 hx2 f1 f2 f3 hp hpa hF
        have smA := smN
        clear smN
        refine ⟨.ref fl, rfl, q _ fl _ (es ++ [.two w1 (.by i0 a1) (.by i0 a2), .two w1 (.by i0 a1) (.by i0 a2)]) smA nfl hF (rw0.append ⟨f3, f3, trivial⟩) (by rw [List.length_append]; show es.length + 2 ≤ 20; omega) fun e' h' => ?_⟩
        rcases List.mem_append.mp h' with h' | h'
        · exact fitM e' h'
        · have h' : e' = .two w1 (.by i0 a1) (.by i0 a2) := by simpa using h'
          subst h'
          exact ⟨⟨⟨oi, oa.1⟩, oi, oa.2⟩, by simp only [Ex.dep]; omega, sm_by2 hw1⟩
      · obtain ⟨pa, xs, rfl, hpa, _, _⟩ := hx.rst
        refine ⟨.ref pa, rfl, pa, _, 0, _, rfl, rfl, hpa, at_of (j := 0) rfl rfl, (by show 2 ≤ sizeLine; decide), fun w38 n_w38 => ⟨w38, _, rfl, .inr (SqT.of upd_same), rfl, rfl, _, rfl, iteFF hno ?_⟩⟩
        have smB := smA.trans (same_new (o := .tup [.str "sum", .str "less"]) n_w38)
        have hFB := same_new (o := .tup [.str "sum", .str "less"]) n_w38 _ _ hF
        have rwB := rw0.same (same_new (o := .tup [.str "sum", .str "less"]) n_w38)
        refine ⟨_, rfl, (by show 2 ≤ sizeLine; decide), fun w39 n_w39 => ⟨w39, _, rfl, .inr (SqT.of upd_same), rfl, rfl, _, rfl, iteFF rfl ?_⟩⟩
        exact ⟨.ref fl, rfl, q _ fl us es (smB.trans (same_new n_w39)) nfl (same_new n_w39 _ _ hFB) (rwB.same (same_new n_w39)) (by omega) fitM⟩
end
end NG

namespace NG
open PySem PySem.Spec PyProof.Rows L2
/-- while the others are made -/
structure Ot0 (K : PySem.W.Frag) (H : Hp) (a : Addr) (e lf : Ex) (v lv : V) (n : Nat) (Hc : Hp) : Prop where
  bt : But a H Hc
  hh : HandAt Hc a n
  he : ExAt K Hc e v
  hl : ExAt K Hc lf lv
theorem Ot0.new {K : PySem.W.Frag} {H Hc : Hp} {a : Addr} {e lf : Ex} {v lv : V} {n : Nat} {p : Addr} {o : HO} (x : Ot0 K H a e lf v lv n Hc) (np : Hc p = none) : Ot0 K H a e lf v lv n (upd Hc p o) :=
  ⟨x.bt.trans (But.new np), x.hh.new np, x.he.new np, x.hl.new np⟩
structure Ot (K : PySem.W.Frag) (H : Hp) (a so : Addr) (many : Nat) (e lf : Ex) (v lv : V) (n m : Nat) (Hc : Hp) : Prop where
  b0 : Ot0 K H a e lf v lv n Hc
  us : ∃ us es, Hc so = some (.lst us) ∧ RowsAt K Hc us es ∧ es.length = m ∧ ∀ e' ∈ es, Fit many e e'
section
variable {K : PySem.W.Frag} {H Hc : Hp} {a so : Addr} {many : Nat} {e lf : Ex} {v lv : V} {n m : Nat}
theorem Ot.he (x : Ot K H a so many e lf v lv n m Hc) : ExAt K Hc e v := x.b0.he
theorem Ot.hl (x : Ot K H a so many e lf v lv n m Hc) : ExAt K Hc lf lv := x.b0.hl
theorem Ot.hh (x : Ot K H a so many e lf v lv n m Hc) : HandAt Hc a n := x.b0.hh
theorem Ot.bt (x : Ot K H a so many e lf v lv n m Hc) : But a H Hc := x.b0.bt
theorem Ot.lst (x : Ot K H a so many e lf v lv n m Hc) : ∃ us, Hc so = some (.lst us) := by
  obtain ⟨us, es, h, _⟩ := x.us
  exact ⟨us, h⟩
theorem Ot.room {us : List V} (x : Ot K H a so many e lf v lv n m Hc) (hm : m ≤ 100) (h : Hc so = some (.lst us)) : us.length < sizeLine := by
  obtain ⟨us', es, h', hr, hl, _⟩ := x.us
  rw [h'] at h
  cases h
  exact small1000 (by rw [hr.len]; omega)
theorem Ot.new {p : Addr} {o : HO} (x : Ot K H a so many e lf v lv n m Hc) (np : Hc p = none) : Ot K H a so many e lf v lv n m (upd Hc p o) := by
  obtain ⟨us, es, h, hr, hl, hf⟩ := x.us
  exact ⟨x.b0.new np, us, es, same_new np _ _ h, hr.same (same_new np), hl, hf⟩
theorem Ot.but {H2 : Hp} {k : Nat} (x : Ot K H a so many e lf v lv n m Hc) (hsa : so ≠ a) (b : But a Hc H2) (hh : HandAt H2 a k) : Ot K H a so many e lf v lv k m H2 := by
  obtain ⟨us, es, h, hr, hl, hf⟩ := x.us
  exact ⟨⟨x.bt.trans b, hh, x.he.but b x.hh, x.hl.but b x.hh⟩, us, es, b _ _ hsa h, hr.imp fun _ _ q => b.sq x.hh q, hl, hf⟩
theorem Ot.app {us : List V} {t : V} {e' : Ex} (x : Ot K H a so many e lf v lv n m Hc) (nso : H so = none) (hsa : so ≠ a) (h : Hc so = some (.lst us)) (ft : ExAt K Hc e' t) (fit : Fit many e e') : Ot K H a so many e lf v lv n (m + 1) (upd Hc so (.lst (us ++ [t]))) := by
  obtain ⟨us', es, h', hr, hl, hf⟩ := x.us
  rw [h'] at h
  cases h
  refine ⟨⟨fun b' o nb eb => ?_, x.hh.put hsa, x.he.imp fun _ _ q => put_sqt h' q, x.hl.imp fun _ _ q => put_sqt h' q⟩, us ++ [t], es ++ [e'], upd_same, RowsAt.snoc (ft.imp fun _ _ q => put_sqt h' q) (hr.imp fun _ _ q => put_sqt h' q), by rw [List.length_append, hl]; rfl, fun z hz => ?_⟩
  · rw [upd_ne (ne_of_none eb nso)]
    exact x.bt _ _ nb eb
  · rcases List.mem_append.mp hz with hz | hz
    · exact hf z hz
    · rw [List.mem_singleton.mp hz]
      exact fit
end
section
variable {P : Program} {w : World} {K : PySem.W.Frag} {mg : Str → Option Value} {base : Heap}
theorem ok_other {f : Addr} {fd : FuncData} (F : Fun K "_law_other" "_law_other" s_L_other f fd) (gF : mg "_law_other" = some (.ref f)) (b : Binds K fd ["_law_hand_here", "_law_expression_here", "_law_many"] []) (B : Bl mg) (c_L_take : Cal P w K mg base 1 "_law_take" spTake) (c_L_of : Cal P w K mg base 2 "_law_of" (spOf K)) (c_L_figure : Cal P w K mg base 3 "_law_figure" spFigure) (c_L_leaf : Cal P w K mg base 4 "_law_leaf" (spLeaf K)) (c_L_by_word : Cal P w K mg base 1 "_law_by_word" (spByWord K)) : Cal P w K mg base 5 "_law_other" (spOther K) := by
  refine ⟨f, fd, _, F.ok sc_L_other (fun vs H Q E h => ?_) (fun cdv A outer s H vs Q E hr h => ?_), gF, F.kp, b⟩
  · obtain ⟨_, _, _, _, _, rfl, _⟩ := h
    rfl
  · obtain ⟨a, v, e, many, n, rfl, hm1, hm2, hh, hn, he, ho, q⟩ := h
    refine ⟨_, (pss_cons (ps_par (i := 3) (j := 4) rfl sc_L_other.nd rfl rfl (by decide) rfl rfl (pa_cons (pe_c c_L_leaf hr (by omega) (by rfl) (pa_cons (pv 0) (pa_cons (pv 2) pa_nil))) (pa_cons (pe_c c_L_take hr (by omega) (by rfl) (pa_cons (pv 0) (pa_cons pe_int pa_nil))) pa_nil)) (by rfl)) (pss_cons (ps_set (i := 5) sc_L_other.nd rfl (.inl rfl) (pe_lst (pa_cons (pe_tup (pa_cons pe_str (pa_cons (pe_tup (pa_cons pe_str (pa_cons pe_int pa_nil))) (pa_cons (pv 1) pa_nil)))) (pa_cons (pe_tup (pa_cons pe_str (pa_cons pe_int (pa_cons (pv 1) pa_nil)))) (pa_cons (pe_tup (pa_cons pe_str (pa_cons (pe_tup (pa_cons pe_str (pa_cons (pv 1) (pa_cons (pv 3) pa_nil)))) (pa_cons (pv 3) pa_nil)))) pa_nil))))) (pss_cons (ps_expr (pe_bm PySem.F.plainAttrs_list PySem.F.slot_list_append PySem.F.type_list_append mt_append (pv 5) (pa_cons (pe_tup (pa_cons pe_str (pa_cons (pv 1) (pa_cons (pe_tup (pa_cons pe_str (pa_cons (pv 1) (pa_cons (pv 3) pa_nil)))) pa_nil)))) pa_nil))) (pss_cons (ps_expr (pe_bm PySem.F.plainAttrs_list PySem.F.slot_list_append PySem.F.type_list_append mt_append (pv 5) (pa_cons (pe_tup (pa_cons pe_str (pa_cons (pe_tup (pa_cons pe_str (pa_cons (pv 3) (pa_cons (pv 1) pa_nil)))) (pa_cons (pv 1) pa_nil)))) pa_nil))) (pss_cons (ps_expr (pe_bm PySem.F.plainAttrs_list PySem.F.slot_list_append PySem.F.type_list_append mt_append (pv 5) (pa_cons (pe_tup (pa_cons pe_str (pa_cons (pe_tup (pa_cons pe_str (pa_cons pe_int pa_nil))) (pa_cons (pe_tup (pa_cons pe_str (pa_cons (pe_un un_neg pe_int) (pa_cons (pv 1) pa_nil)))) pa_nil)))) pa_nil))) (pss_cons (ps_expr (pe_bm PySem.F.plainAttrs_list PySem.F.slot_list_append PySem.F.type_list_append mt_append (pv 5) (pa_cons (pe_tup (pa_cons pe_str (pa_cons (pv 4) (pa_cons (pe_c c_L_figure hr (by omega) (by rfl) (pa_cons (pv 0) pa_nil)) (pa_cons (pv 1) (pa_cons (pv 1) pa_nil)))))) pa_nil))) (pss_cons (ps_expr (pe_bm PySem.F.plainAttrs_list PySem.F.slot_list_append PySem.F.type_list_append mt_append (pv 5) (pa_cons (pe_tup (pa_cons pe_str (pa_cons (pv 4) (pa_cons (pe_op op_add pe_int (pe_c c_L_take hr (by omega) (by rfl) (pa_cons (pv 0) (pa_cons pe_int pa_nil)))) (pa_cons (pv 1) (pa_cons (pv 1) pa_nil)))))) pa_nil))) (pss_one (ps_ret (pe_c c_L_of hr (by omega) (by rfl) (pa_cons (pv 0) (pa_cons (pe_op op_cat (pv 5) (pe_op op_rep (pe_c c_L_by_word hr (by omega) (by rfl) (pa_cons (pv 1) (pa_cons (pv 3) pa_nil))) pe_int)) pa_nil)))))))))))), ?_⟩
    have dpe := dep_pos e
    refine ⟨.ref a, rfl, .int (many : Int), rfl, a, many, n, rfl, by omega, by omega, hh, by omega, fun H0 lv lf b0 hh0 hl0 olf dlf => ?_⟩
    refine ⟨.ref a, rfl, a, 2, _, rfl, by decide, by decide, hh0, by omega, fun H1 r b1 hh1 r0 r1 => ⟨_, _, rfl, ?_⟩⟩
    obtain ⟨r, rfl⟩ : ∃ r' : Nat, r = (r' : Int) := ⟨r.toNat, by omega⟩
    have oo : Ot0 K H a e lf v lv (n + 6) H1 := ⟨b0.trans b1, hh1, (he.but b0 hh).but b1 hh0, hl0.but b1 hh0⟩
    refine ⟨(by show 2 ≤ sizeLine; decide), fun t1 n_t1 => ?_⟩
    have f_t1 : ExAt K (upd H1 t1 (.tup [.str "fig", .int 0])) (.fig 0) (.ref t1) := ⟨t1, rfl, SqT.of upd_same⟩
    have oN := oo.new (o := .tup [.str "fig", .int 0]) n_t1
    clear oo
    generalize upd H1 t1 (.tup [.str "fig", .int 0]) = Hx1 at oN f_t1
    have oo := oN
    clear oN
    refine ⟨v, rfl, (by show 3 ≤ sizeLine; decide), fun t2 n_t2 => ?_⟩
    have f_t2 : ExAt K (upd Hx1 t2 (.tup [.str "sum", .ref t1, v])) (.two .sum (.fig 0) e) (.ref t2) := ⟨t2, _, _, rfl, SqT.of upd_same, f_t1.new n_t2, oo.he.new n_t2⟩
    have f_t1 := f_t1.new (o := .tup [.str "sum", .ref t1, v]) n_t2
    have oN := oo.new (o := .tup [.str "sum", .ref t1, v]) n_t2
    clear oo
    generalize upd Hx1 t2 (.tup [.str "sum", .ref t1, v]) = Hx2 at oN f_t1 f_t2
    have oo := oN
    clear oN
    refine ⟨v, rfl, (by show 3 ≤ sizeLine; decide), fun t3 n_t3 => ?_⟩
    have f_t3 : ExAt K (upd Hx2 t3 (.tup [.str "times", .int 1, v])) (.times 1 e) (.ref t3) := ⟨t3, _, rfl, SqT.of upd_same, oo.he.new n_t3⟩
    have f_t1 := f_t1.new (o := .tup [.str "times", .int 1, v]) n_t3
    have f_t2 := f_t2.new (o := .tup [.str "times", .int 1, v]) n_t3
    have oN := oo.new (o := .tup [.str "times", .int 1, v]) n_t3
    clear oo
    generalize upd Hx2 t3 (.tup [.str "times", .int 1, v]) = Hx3 at oN f_t1 f_t2 f_t3
    have oo := oN
    clear oN
    refine ⟨v, rfl, lv, rfl, (by show 3 ≤ sizeLine; decide), fun t4 n_t4 => ?_⟩
    have f_t4 : ExAt K (upd Hx3 t4 (.tup [.str "sum", v, lv])) (.two .sum e lf) (.ref t4) := ⟨t4, _, _, rfl, SqT.of upd_same, oo.he.new n_t4, oo.hl.new n_t4⟩
    have f_t1 := f_t1.new (o := .tup [.str "sum", v, lv]) n_t4
    have f_t2 := f_t2.new (o := .tup [.str "sum", v, lv]) n_t4
    have f_t3 := f_t3.new (o := .tup [.str "sum", v, lv]) n_t4
    have oN := oo.new (o := .tup [.str "sum", v, lv]) n_t4
    clear oo
    generalize upd Hx3 t4 (.tup [.str "sum", v, lv]) = Hx4 at oN f_t1 f_t2 f_t3 f_t4
    have oo := oN
    clear oN
    refine ⟨lv, rfl, (by show 3 ≤ sizeLine; decide), fun t5 n_t5 => ?_⟩
    have f_t5 : ExAt K (upd Hx4 t5 (.tup [.str "less", .ref t4, lv])) (.two .less (.two .sum e lf) lf) (.ref t5) := ⟨t5, _, _, rfl, SqT.of upd_same, f_t4.new n_t5, oo.hl.new n_t5⟩
    have f_t1 := f_t1.new (o := .tup [.str "less", .ref t4, lv]) n_t5
    have f_t2 := f_t2.new (o := .tup [.str "less", .ref t4, lv]) n_t5
    have f_t3 := f_t3.new (o := .tup [.str "less", .ref t4, lv]) n_t5
    have f_t4 := f_t4.new (o := .tup [.str "less", .ref t4, lv]) n_t5
    have oN := oo.new (o := .tup [.str "less", .ref t4, lv]) n_t5
    clear oo
    generalize upd Hx4 t5 (.tup [.str "less", .ref t4, lv]) = Hx5 at oN f_t1 f_t2 f_t3 f_t4 f_t5
    have oo := oN
    clear oN
    refine ⟨(by show 3 ≤ sizeLine; decide), fun so n_so => ?_⟩
    have nso : H so = none := But.free oo.bt hh.choose_spec.choose_spec.choose_spec.1 n_so (fun z => absurd rfl (oo.hh.ne z))
    have hsa : so ≠ a := oo.hh.ne n_so
    have hso : (upd Hx5 so (.lst [.ref t2, .ref t3, .ref t5])) so = some (.lst [.ref t2, .ref t3, .ref t5]) := upd_same
    have oN : Ot K H a so many e lf v lv (n + 6) 3 (upd Hx5 so (.lst [.ref t2, .ref t3, .ref t5])) := ⟨oo.new n_so, _, [.two .sum (.fig 0) e, .times 1 e, .two .less (.two .sum e lf) lf], hso, ⟨f_t2.new n_so, f_t3.new n_so, f_t5.new n_so, trivial⟩, rfl, fun e' h' => ?_⟩
    rotate_left
    · simp only [List.mem_cons, List.not_mem_nil, or_false] at h'
      rcases h' with rfl | rfl | rfl
      · exact ⟨⟨⟨by decide, by decide⟩, ho⟩, by simp only [Ex.dep]; omega, sm_zero⟩
      · exact ⟨⟨⟨by decide, by decide⟩, ho⟩, by simp only [Ex.dep]; omega, sm_one⟩
      · exact ⟨⟨⟨ho, olf⟩, olf⟩, by simp only [Ex.dep]; omega, sm_back⟩
    clear oo hso f_t1 f_t2 f_t3 f_t4 f_t5
    generalize upd Hx5 so (.lst [.ref t2, .ref t3, .ref t5]) = Hy at oN
    have oo := oN
    clear oN
    obtain ⟨us, hS⟩ := oo.lst
    refine ⟨.ref so, rfl, .inl ⟨rfl, _, SqL.of hS⟩, ?_⟩
    clear hS us
    refine ⟨v, rfl, ?_⟩
    refine ⟨v, rfl, lv, rfl, (by show 3 ≤ sizeLine; decide), fun t6 n_t6 => ?_⟩
    have f_t6 : ExAt K (upd Hy t6 (.tup [.str "least", v, lv])) (.two .least e lf) (.ref t6) := ⟨t6, _, _, rfl, SqT.of upd_same, oo.he.new n_t6, oo.hl.new n_t6⟩
    have oN := oo.new (o := .tup [.str "least", v, lv]) n_t6
    clear oo
    generalize upd Hy t6 (.tup [.str "least", v, lv]) = Hx6 at oN f_t6
    have oo := oN
    clear oN
    refine ⟨(by show 3 ≤ sizeLine; decide), fun t7 n_t7 => ?_⟩
    have f_t7 : ExAt K (upd Hx6 t7 (.tup [.str "most", v, .ref t6])) (.two .most e (.two .least e lf)) (.ref t7) := ⟨t7, _, _, rfl, SqT.of upd_same, oo.he.new n_t7, f_t6.new n_t7⟩
    have f_t6 := f_t6.new (o := .tup [.str "most", v, .ref t6]) n_t7
    have oN := oo.new (o := .tup [.str "most", v, .ref t6]) n_t7
    clear oo
    generalize upd Hx6 t7 (.tup [.str "most", v, .ref t6]) = Hx7 at oN f_t6 f_t7
    have oo := oN
    clear oN
    obtain ⟨us, hS⟩ := oo.lst
    refine ⟨so, us, _, rfl, rfl, hS, oo.room (by decide) hS, ?_⟩
    have oN := oo.app nso hsa hS f_t7 (⟨⟨ho, ho, olf⟩, by simp only [Ex.dep]; omega, sm_abs1⟩)
    clear oo hS f_t6 f_t7
    generalize upd Hx7 so _ = Hx8 at oN
    have oo := oN
    clear oN us
    obtain ⟨us, hS⟩ := oo.lst
    refine ⟨.ref so, rfl, .inl ⟨rfl, _, SqL.of hS⟩, ?_⟩
    clear hS us
    refine ⟨lv, rfl, v, rfl, (by show 3 ≤ sizeLine; decide), fun t8 n_t8 => ?_⟩
    have f_t8 : ExAt K (upd Hx8 t8 (.tup [.str "most", lv, v])) (.two .most lf e) (.ref t8) := ⟨t8, _, _, rfl, SqT.of upd_same, oo.hl.new n_t8, oo.he.new n_t8⟩
    have oN := oo.new (o := .tup [.str "most", lv, v]) n_t8
    clear oo
    generalize upd Hx8 t8 (.tup [.str "most", lv, v]) = Hx9 at oN f_t8
    have oo := oN
    clear oN
    refine ⟨v, rfl, (by show 3 ≤ sizeLine; decide), fun t9 n_t9 => ?_⟩
    have f_t9 : ExAt K (upd Hx9 t9 (.tup [.str "least", .ref t8, v])) (.two .least (.two .most lf e) e) (.ref t9) := ⟨t9, _, _, rfl, SqT.of upd_same, f_t8.new n_t9, oo.he.new n_t9⟩
    have f_t8 := f_t8.new (o := .tup [.str "least", .ref t8, v]) n_t9
    have oN := oo.new (o := .tup [.str "least", .ref t8, v]) n_t9
    clear oo
    generalize upd Hx9 t9 (.tup [.str "least", .ref t8, v]) = Hx10 at oN f_t8 f_t9
    have oo := oN
    clear oN
    obtain ⟨us, hS⟩ := oo.lst
    refine ⟨so, us, _, rfl, rfl, hS, oo.room (by decide) hS, ?_⟩
    have oN := oo.app nso hsa hS f_t9 (⟨⟨⟨olf, ho⟩, ho⟩, by simp only [Ex.dep]; omega, sm_abs2⟩)
    clear oo hS f_t8 f_t9
    generalize upd Hx10 so _ = Hx11 at oN
    have oo := oN
    clear oN us
    obtain ⟨us, hS⟩ := oo.lst
    refine ⟨.ref so, rfl, .inl ⟨rfl, _, SqL.of hS⟩, ?_⟩
    clear hS us
    refine ⟨(by show 2 ≤ sizeLine; decide), fun t10 n_t10 => ?_⟩
    have f_t10 : ExAt K (upd Hx11 t10 (.tup [.str "fig", .int 0])) (.fig 0) (.ref t10) := ⟨t10, rfl, SqT.of upd_same⟩
    have oN := oo.new (o := .tup [.str "fig", .int 0]) n_t10
    clear oo
    generalize upd Hx11 t10 (.tup [.str "fig", .int 0]) = Hx12 at oN f_t10
    have oo := oN
    clear oN
    refine ⟨_, rfl, v, rfl, (by show 3 ≤ sizeLine; decide), fun t11 n_t11 => ?_⟩
    have f_t11 : ExAt K (upd Hx12 t11 (.tup [.str "times", .int (-1), v])) (.times (-1) e) (.ref t11) := ⟨t11, _, rfl, SqT.of upd_same, oo.he.new n_t11⟩
    have f_t10 := f_t10.new (o := .tup [.str "times", .int (-1), v]) n_t11
    have oN := oo.new (o := .tup [.str "times", .int (-1), v]) n_t11
    clear oo
    generalize upd Hx12 t11 (.tup [.str "times", .int (-1), v]) = Hx13 at oN f_t10 f_t11
    have oo := oN
    clear oN
    refine ⟨(by show 3 ≤ sizeLine; decide), fun t12 n_t12 => ?_⟩
    have f_t12 : ExAt K (upd Hx13 t12 (.tup [.str "less", .ref t10, .ref t11])) (.two .less (.fig 0) (.times (-1) e)) (.ref t12) := ⟨t12, _, _, rfl, SqT.of upd_same, f_t10.new n_t12, f_t11.new n_t12⟩
    have f_t10 := f_t10.new (o := .tup [.str "less", .ref t10, .ref t11]) n_t12
    have f_t11 := f_t11.new (o := .tup [.str "less", .ref t10, .ref t11]) n_t12
    have oN := oo.new (o := .tup [.str "less", .ref t10, .ref t11]) n_t12
    clear oo
    generalize upd Hx13 t12 (.tup [.str "less", .ref t10, .ref t11]) = Hx14 at oN f_t10 f_t11 f_t12
    have oo := oN
    clear oN
    obtain ⟨us, hS⟩ := oo.lst
    refine ⟨so, us, _, rfl, rfl, hS, oo.room (by decide) hS, ?_⟩
    have oN := oo.app nso hsa hS f_t12 (⟨⟨⟨by decide, by decide⟩, ⟨by decide, by decide⟩, ho⟩, by simp only [Ex.dep]; omega, sm_neg⟩)
    clear oo hS f_t10 f_t11 f_t12
    generalize upd Hx14 so _ = Hx15 at oN
    have oo := oN
    clear oN us
    obtain ⟨us, hS⟩ := oo.lst
    refine ⟨.ref so, rfl, .inl ⟨rfl, _, SqL.of hS⟩, ?_⟩
    clear hS us
    refine ⟨_, rfl, .ref a, rfl, a, _, rfl, oo.hh, by omega, fun Hf c bf hhf c0 c1 => ⟨v, rfl, v, rfl, ?_⟩⟩
    have oN := oo.but hsa bf hhf
    clear oo
    have oo := oN
    clear oN
    refine ⟨(by show 5 ≤ sizeLine; decide), fun t13 n_t13 => ?_⟩
    have f_t13 : ExAt K (upd Hf t13 (.tup [.str "when", .int (r : Int), .int c, v, v])) (.when r c e e) (.ref t13) := ⟨t13, _, _, rfl, SqT.of upd_same, oo.he.new n_t13, oo.he.new n_t13⟩
    have oN := oo.new (o := .tup [.str "when", .int (r : Int), .int c, v, v]) n_t13
    clear oo
    generalize upd Hf t13 (.tup [.str "when", .int (r : Int), .int c, v, v]) = Hx16 at oN f_t13
    have oo := oN
    clear oN
    obtain ⟨us, hS⟩ := oo.lst
    refine ⟨so, us, _, rfl, rfl, hS, oo.room (by decide) hS, ?_⟩
    have oN := oo.app nso hsa hS f_t13 (⟨⟨by omega, ⟨c0, c1⟩, ho, ho⟩, by simp only [Ex.dep]; omega, sm_whens⟩)
    clear oo hS f_t13
    generalize upd Hx16 so _ = Hx17 at oN
    have oo := oN
    clear oN us
    obtain ⟨us, hS⟩ := oo.lst
    refine ⟨.ref so, rfl, .inl ⟨rfl, _, SqL.of hS⟩, ?_⟩
    clear hS us
    refine ⟨_, rfl, .ref a, rfl, a, 1000, _, rfl, by decide, by decide, oo.hh, by omega, fun Hg d bg hhg d0 d1 => ⟨1, _, rfl, rfl, v, rfl, v, rfl, ?_⟩⟩
    have oN := oo.but hsa bg hhg
    clear oo
    have oo := oN
    clear oN
    refine ⟨(by show 5 ≤ sizeLine; decide), fun t14 n_t14 => ?_⟩
    have f_t14 : ExAt K (upd Hg t14 (.tup [.str "where", .int (r : Int), .int (1 + d), v, v])) (.whr r (1 + d) e e) (.ref t14) := ⟨t14, _, _, rfl, SqT.of upd_same, oo.he.new n_t14, oo.he.new n_t14⟩
    have oN := oo.new (o := .tup [.str "where", .int (r : Int), .int (1 + d), v, v]) n_t14
    clear oo
    generalize upd Hg t14 (.tup [.str "where", .int (r : Int), .int (1 + d), v, v]) = Hx18 at oN f_t14
    have oo := oN
    clear oN
    obtain ⟨us, hS⟩ := oo.lst
    refine ⟨so, us, _, rfl, rfl, hS, oo.room (by decide) hS, ?_⟩
    have oN := oo.app nso hsa hS f_t14 (⟨⟨by omega, ⟨by omega, by omega⟩, ho, ho⟩, by simp only [Ex.dep]; omega, sm_whrs⟩)
    clear oo hS f_t14
    generalize upd Hx18 so _ = Hx19 at oN
    have oo := oN
    clear oN us
    obtain ⟨us, es, hS, hrw, hln, hft⟩ := oo.us
    refine ⟨.ref a, rfl, .ref so, rfl, v, rfl, lv, rfl, v, lv, e, lf, many, rfl, oo.he, oo.hl, ho, olf, dlf, fun H2 l ws gs sm2 nl hl2 rw2 len2 fit2 => ?_⟩
    have hwl := rw2.len
    have hul := hrw.len
    have e3 : (List.replicate (3 : Int).toNat ws).flatten.length = 3 * ws.length := by
      show (List.flatten [ws, ws, ws]).length = _
      simp only [List.flatten_cons, List.flatten_nil, List.length_append, List.append_nil]
      omega
    refine ⟨l, 3, ws, rfl, rfl, hl2, by decide, by decide, Nat.le_of_lt (small1000 (by rw [show (3 : Int).toNat = 3 from rfl]; omega)), fun l2 n2 => ?_⟩
    have s2 := same_new (o := .lst (List.replicate (3 : Int).toNat ws).flatten) n2
    refine ⟨so, l2, us, _, rfl, rfl, s2 _ _ (sm2 _ _ hS), upd_same, Nat.le_of_lt (small1000 (by rw [e3]; omega)), fun l3 n3 => ?_⟩
    have s3 := same_new (o := .lst (us ++ (List.replicate (3 : Int).toNat ws).flatten)) n3
    have hh3 := (((oo.hh.same sm2).new (o := .lst (List.replicate (3 : Int).toNat ws).flatten) n2).new (o := .lst (us ++ (List.replicate (3 : Int).toNat ws).flatten)) n3)
    have s23 := sm2.trans (s2.trans s3)
    refine ⟨a, l3, _, _, rfl, (((oo.hh.same sm2).new n2).ne n3).symm, upd_same, by rw [List.length_append]; omega, by rw [List.length_append, e3]; omega, hh3, by omega, fun H4 u b4 hh4 hu => ?_⟩
    have bt := (oo.bt.trans (But.of s23)).trans b4
    have key : ∃ e', ExAt K (upd (upd H2 l2 (.lst (List.replicate (3 : Int).toNat ws).flatten)) l3 (.lst (us ++ (List.replicate (3 : Int).toNat ws).flatten))) e' u ∧ Fit many e e' := by
      rcases List.mem_append.mp hu with hu | hu
      · obtain ⟨e', h1, h2⟩ := hrw.mem hu
        exact ⟨e', h2.same s23, hft e' h1⟩
      · obtain ⟨z, hz, hu⟩ := List.mem_flatten.mp hu
        rw [(List.mem_replicate.mp hz).2] at hu
        obtain ⟨e', h1, h2⟩ := rw2.mem hu
        exact ⟨e', (h2.same s2).same s3, fit2 e' h1⟩
    obtain ⟨e', hx, hf⟩ := key
    exact q _ u e' bt (hh4.le (by omega)) (hx.but b4 hh3) hf
end
end NG

namespace NG
open PySem PySem.Spec PyProof.Rows L2
/-! ### where the parts stand -/
def spt : Nat → List Itm → List Nat
  | _, [] => []
  | k, t :: r => (if t.isK then [k] else []) ++ spt (k + 1) r
theorem spt_snoc (t : Itm) : ∀ (l : List Itm) (k : Nat), spt k (l ++ [t]) = spt k l ++ (if t.isK then [k + l.length] else [])
  | [], k => by simp [spt]
  | x :: l, k => by
    show (if x.isK then [k] else []) ++ spt (k + 1) (l ++ [t]) = ((if x.isK then [k] else []) ++ spt (k + 1) l) ++ _
    rw [spt_snoc t l (k + 1), List.append_assoc, List.length_cons, show k + 1 + l.length = k + (l.length + 1) by omega]
theorem spt_len : ∀ (l : List Itm) (k : Nat), (spt k l).length ≤ l.length
  | [], k => Nat.le_refl _
  | x :: l, k => by
    have := spt_len l (k + 1)
    show ((if x.isK then [k] else []) ++ spt (k + 1) l).length ≤ l.length + 1
    rw [List.length_append]
    split
    · show 1 + _ ≤ _; omega
    · show 0 + _ ≤ _; omega
theorem spt_mem : ∀ {l : List Itm} {k j : Nat}, j ∈ spt k l → ∃ e, k ≤ j ∧ l[j - k]? = some (.k e)
  | x :: l, k, j, h => by
    have h : j ∈ (if x.isK then [k] else []) ++ spt (k + 1) l := h
    rcases List.mem_append.mp h with h | h
    · cases x with
      | k e =>
        have : j = k := by simpa [Itm.isK] using h
        subst this
        exact ⟨e, Nat.le_refl _, by rw [Nat.sub_self]; rfl⟩
      | s z => simp [Itm.isK] at h
      | i z => simp [Itm.isK] at h
    · obtain ⟨e, h1, h2⟩ := spt_mem h
      refine ⟨e, by omega, ?_⟩
      rw [show j - k = (j - (k + 1)) + 1 by omega]
      exact h2
theorem items_len (e : Ex) : e.items.length ≤ 5 := by cases e <;> simp [Ex.items]
theorem shaped_ints (ns : List Int) : SeqAt.shaped (.list (ns.map PyData.int)) = true := by
  have h1 : PyData.canLayAll0 (ns.map PyData.int) = true := by
    induction ns with
    | nil => rfl
    | cons n r ih =>
      show ((PyData.int n).canLay0 && PyData.canLayAll0 (r.map PyData.int)) = true
      rw [ih]
      rfl
  have h2 : PyData.depthAll (ns.map PyData.int) ≤ 0 := by
    clear h1
    induction ns with
    | nil => exact Nat.zero_le _
    | cons n r ih =>
      show max (PyData.int n).depth (PyData.depthAll (r.map PyData.int)) ≤ 0
      have : (PyData.int n).depth = 0 := rfl
      omega
  show (PyData.canLayAll0 (ns.map PyData.int) && decide (PyData.depthAll (ns.map PyData.int) + 1 ≤ 64)) = true
  rw [h1, decide_eq_true (by omega)]
  rfl
theorem cut_to {ws : List V} {i : Nat} (h : i ≤ ws.length) : cutV ws none (some (i : Int)) = ws.take i := by
  unfold cutV
  rw [HT.sIx_none, show HT.sIx ws.length ws.length (some (i : Int)) = min i ws.length from HT.sIx_nat _ _ _, List.drop_zero, Nat.sub_zero, Nat.min_eq_left h]
theorem cut_from {ws : List V} {i : Nat} (h : i ≤ ws.length) : cutV ws (some (i : Int)) none = ws.drop i := by
  unfold cutV
  rw [HT.sIx_none, show HT.sIx ws.length 0 (some (i : Int)) = min i ws.length from HT.sIx_nat _ _ _, Nat.min_eq_left h]
  exact List.take_of_length_le (by rw [List.length_drop]; omega)
theorem ItsAt.setK {K : PySem.W.Frag} {H : Hp} {t : Itm} {v : V} (x : ItAt K H t v) : ∀ {vs : List V} {ts : List Itm} (i : Nat), ItsAt K H vs ts → ItsAt K H (vs.set i v) (ts.set i t)
  | [], [], _, _ => trivial
  | _ :: _, _ :: _, 0, ⟨_, r⟩ => ⟨x, r⟩
  | _ :: _, _ :: _, i + 1, ⟨y, r⟩ => ⟨y, ItsAt.setK x i r⟩
theorem ItsAt.sq {K : PySem.W.Frag} {H H' : Hp} (h : ∀ p xs, SqT K H p xs → SqT K H' p xs) : ∀ {vs : List V} {ts : List Itm}, ItsAt K H vs ts → ItsAt K H' vs ts
  | [], [], _ => trivial
  | _ :: _, .s _ :: _, ⟨x, r⟩ => ⟨x, r.sq h⟩
  | _ :: _, .i _ :: _, ⟨x, r⟩ => ⟨x, r.sq h⟩
  | _ :: _, .k e :: _, ⟨x, r⟩ => ⟨ExAt.imp (e := e) h x, r.sq h⟩
theorem items_rest (e : Ex) : e.items = .s (wordOf e) :: e.rest := by cases e <;> rfl
theorem ExAt.of_its {K : PySem.W.Frag} {H : Hp} {p : Addr} {e : Ex} {xs : List V} (q : SqT K H p xs) (h : ItsAt K H xs e.items) : ExAt K H e (.ref p) := by
  rw [items_rest] at h
  obtain ⟨v, vs, rfl, h1, h2⟩ := h.c1
  have h1 : v = .str (wordOf e) := h1
  subst h1
  exact ExAt.of_rst q h2
theorem kid_ok {many i : Nat} {e k : Ex} (ho : ExOk many e) (hi : e.items[i]? = some (.k k)) : ExOk many k ∧ k.dep + 1 ≤ e.dep := by
  have hm : k ∈ e.kids := by
    rw [← kidsI_items]
    exact mem_kidsI (List.mem_of_getElem? hi)
  refine ⟨?_, kids_dep e k hm⟩
  cases e with
  | fig _ => cases hm
  | reg _ => cases hm
  | share _ => cases hm
  | two w a b =>
    have : k = a ∨ k = b := by simpa [Ex.kids] using hm
    rcases this with rfl | rfl
    · exact ho.1
    · exact ho.2
  | times f a =>
    have : k = a := by simpa [Ex.kids] using hm
    subst this
    exact ho.2
  | «by» i a =>
    have : k = a := by simpa [Ex.kids] using hm
    subst this
    exact ho.2
  | when i c a b =>
    have : k = a ∨ k = b := by simpa [Ex.kids] using hm
    rcases this with rfl | rfl
    · exact ho.2.2.1
    · exact ho.2.2.2
  | whr i c a b =>
    have : k = a ∨ k = b := by simpa [Ex.kids] using hm
    rcases this with rfl | rfl
    · exact ho.2.2.1
    · exact ho.2.2.2
theorem set_kid {many i : Nat} {e k k' : Ex} (ho : ExOk many e) (hi : e.items[i]? = some (.k k)) (hf : Fit many k k') : ∃ e', e'.items = e.items.set i (.k k') ∧ Fit many e e' := by
  obtain ⟨fo, fd, fs⟩ := hf
  cases e with
  | fig _ =>
    match i, hi with
    | 0, hi => cases hi
    | 1, hi => cases hi
    | _ + 2, hi => cases hi
  | reg _ =>
    match i, hi with
    | 0, hi => cases hi
    | 1, hi => cases hi
    | _ + 2, hi => cases hi
  | share _ =>
    match i, hi with
    | 0, hi => cases hi
    | 1, hi => cases hi
    | _ + 2, hi => cases hi
  | two w a b =>
    match i, hi with
    | 0, hi => cases hi
    | 1, hi =>
      cases hi
      exact ⟨.two w k' b, rfl, ⟨fo, ho.2⟩, by simp only [Ex.dep]; omega, sm_two fs (Sm.refl _)⟩
    | 2, hi =>
      cases hi
      exact ⟨.two w a k', rfl, ⟨ho.1, fo⟩, by simp only [Ex.dep]; omega, sm_two (Sm.refl _) fs⟩
    | _ + 3, hi => cases hi
  | times f a =>
    match i, hi with
    | 0, hi => cases hi
    | 1, hi => cases hi
    | 2, hi =>
      cases hi
      exact ⟨.times f k', rfl, ⟨ho.1, fo⟩, by simp only [Ex.dep]; omega, sm_timesK fs⟩
    | _ + 3, hi => cases hi
  | «by» r a =>
    match i, hi with
    | 0, hi => cases hi
    | 1, hi => cases hi
    | 2, hi =>
      cases hi
      exact ⟨.by r k', rfl, ⟨ho.1, fo⟩, by simp only [Ex.dep]; omega, sm_byK fs⟩
    | _ + 3, hi => cases hi
  | when r c a b =>
    match i, hi with
    | 0, hi => cases hi
    | 1, hi => cases hi
    | 2, hi => cases hi
    | 3, hi =>
      cases hi
      exact ⟨.when r c k' b, rfl, ⟨ho.1, ho.2.1, fo, ho.2.2.2⟩, by simp only [Ex.dep]; omega, sm_whenK fs (Sm.refl _)⟩
    | 4, hi =>
      cases hi
      exact ⟨.when r c a k', rfl, ⟨ho.1, ho.2.1, ho.2.2.1, fo⟩, by simp only [Ex.dep]; omega, sm_whenK (Sm.refl _) fs⟩
    | _ + 5, hi => cases hi
  | whr r c a b =>
    match i, hi with
    | 0, hi => cases hi
    | 1, hi => cases hi
    | 2, hi => cases hi
    | 3, hi =>
      cases hi
      exact ⟨.whr r c k' b, rfl, ⟨ho.1, ho.2.1, fo, ho.2.2.2⟩, by simp only [Ex.dep]; omega, sm_whrK fs (Sm.refl _)⟩
    | 4, hi =>
      cases hi
      exact ⟨.whr r c a k', rfl, ⟨ho.1, ho.2.1, ho.2.2.1, fo⟩, by simp only [Ex.dep]; omega, sm_whrK (Sm.refl _) fs⟩
    | _ + 5, hi => cases hi
def spTurned (K : PySem.W.Frag) (n : Nat) : Sp := fun vs H Q _ => ∃ (a : Addr) (v : V) (e : Ex) (many k : Nat), vs = [.ref a, v, .int (many : Int)] ∧ 2 ≤ many ∧ many ≤ 3 ∧ HandAt H a k ∧ k + 22 * n ≤ 999980000 ∧ ExAt K H e v ∧ ExOk many e ∧ e.dep ≤ n ∧
  ∀ H' u e', But a H H' → HandAt H' a (k + 22 * n) → ExAt K H' e' u → Fit many e e' → Q u H'
section
variable {P : Program} {w : World} {K : PySem.W.Frag} {mg : Str → Option Value} {base : Heap}
theorem ok_turned {f : Addr} {fd : FuncData} (F : Fun K "_law_turned" "_law_turned" s_L_turned f fd) (gF : mg "_law_turned" = some (.ref f)) (b : Binds K fd ["_law_hand_here", "_law_expression_here", "_law_many"] []) (B : Bl mg) (c_L_take : Cal P w K mg base 1 "_law_take" spTake) (c_L_of : Cal P w K mg base 2 "_law_of" (spOf K)) (c_L_other : Cal P w K mg base 5 "_law_other" (spOther K)) : ∀ n, Cal P w K mg base (n + 6) "_law_turned" (spTurned K n) := by
  intro n
  induction n with
  | zero =>
    refine cal_never F gF b fun vs H Q E h => ?_
    obtain ⟨_, _, e, _, _, _, _, _, _, _, _, _, hd, _⟩ := h
    have := dep_pos e
    omega
  | succ n c_L_turned =>
  refine ⟨f, fd, _, F.ok sc_L_turned (fun vs H Q E h => ?_) (fun cdv A outer s H vs Q E hr h => ?_), gF, F.kp, b⟩
  · obtain ⟨_, _, _, _, _, rfl, _⟩ := h
    rfl
  · obtain ⟨a, v, e, many, k, rfl, hm1, hm2, hh, hk, he, ho, hd, q⟩ := h
    refine ⟨_, (pss_cons (ps_setLc (i := 3) (own := [("_law_k", 4), ("_law_part", 5)]) rfl sc_L_turned.nd rfl rfl (sw_true rfl rfl rfl (by decide +kernel)) (pi_enumT (by rfl) B.enumerate (pa_cons (pv 1) pa_nil)) (blkOk_by (N := N_L_turned) (sc := defScope s_L_turned) (by decide +kernel)) (fun _ _ _ _ _ => pgtK (n := 2) K rfl (pgs_cons (pg_name (i := 4) sc_L_turned.nd rfl (.inl rfl)) (pgs_cons (pg_name (i := 5) sc_L_turned.nd rfl (.inl rfl)) pgs_nil))) (fun _ _ _ _ _ => pts_one (pt_val (pe_callB (isiK K) (by rfl) B.isinstance (by decide +kernel) (pa_cons (pv 5) (pa_cons (pe_bltn (v := .ty "tuple") (by rfl) B.tuple (by decide +kernel) rfl) pa_nil))))) (fun _ _ _ _ _ => pv 4)) (pss_cons (ps_if (PW.pt (pw_or (pt_cmpR (op_eqD hr.units) (pv 3) (pe_lst pa_nil) (nomark _)) (pw_or1 (pt_cmpR op_eq (pe_c c_L_take hr (by omega) (by rfl) (pa_cons (pv 0) (pa_cons pe_int pa_nil))) pe_int (nomark _))))) (pss_one (ps_ret (pe_c c_L_other hr (by omega) (by rfl) (pa_cons (pv 0) (pa_cons (pv 1) (pa_cons (pv 2) pa_nil)))))) pss_nil) (pss_cons (ps_set (i := 6) sc_L_turned.nd rfl (.inl rfl) (pe_c c_L_of hr (by omega) (by rfl) (pa_cons (pv 0) (pa_cons (pv 3) pa_nil)))) (pss_cons (ps_set (i := 7) sc_L_turned.nd rfl (.inl rfl) (pe_c c_L_turned hr (by omega) (by rfl) (pa_cons (pv 0) (pa_cons (pe_ix ix_tup (pv 1) (pv 6) (fun _ _ => rfl)) (pa_cons (pv 2) pa_nil))))) (pss_one (ps_ret (pe_op op_catA (pe_op op_catA (pe_slice sl_tupA (pv 1) po_none (po_some (pv 6))) (pe_tup (pa_cons (pv 7) pa_nil))) (pe_slice sl_tupA (pv 1) (po_some (pe_op op_add (pv 6) pe_int)) po_none)))))))), ?_⟩
    obtain ⟨p, ws, rfl, hp, hits⟩ := he.its
    have wl := hits.len
    have il := items_len e
    refine ⟨.ref p, rfl, p, ws, rfl, hp, fun D nD => lc_it (walk_En rfl) (fun i H' => Same H H' ∧ H' D = some (.lst ((spt 0 (e.items.take i)).map fun j : Nat => V.int (j : Int)))) ⟨same_new nD, upd_same⟩ (fun i H' _ h => same_sqt h.1 hp) ?_ ?_⟩
    · rintro i x H1 H2 hi ⟨sm1, hD1⟩ ⟨T, x0, y, rfl, nT, rfl, hx0, hy⟩
      cases hx0
      obtain ⟨tm, htm, hit⟩ := hits.get hy
      have smT := same_new (o := .tup [.int ((i : Nat) : Int), y]) nT
      have sm2 := sm1.trans smT
      have hD2 := smT _ _ hD1
      have hit2 : ItAt K (upd H1 T (.tup [.int ((i : Nat) : Int), y])) tm y := by
        cases tm with
        | s z => exact hit
        | i z => exact hit
        | k z => exact ExAt.same (e := z) hit sm2
      obtain ⟨ty, tyx, kk⟩ := isi_item hit2
      have hsn : spt 0 (e.items.take (i + 1)) = spt 0 (e.items.take i) ++ (if tm.isK then [i] else []) := by
        have hlt : i < e.items.length := (List.getElem?_eq_some_iff.mp htm).1
        rw [List.take_add_one, htm]
        show spt 0 (e.items.take i ++ [tm]) = _
        rw [spt_snoc, List.length_take, Nat.min_eq_left (Nat.le_of_lt hlt), Nat.zero_add]
      refine ⟨T, _, rfl, SqT.of upd_same, rfl, _, _, rfl, _, _, rfl, rfl, rfl, y, rfl, _, _, _, _, tm.isK, rfl, .ty _, tyx, kk, _, rfl, ?_⟩
      rw [hsn]
      cases hb : tm.isK with
      | false =>
        refine iteFF rfl ⟨sm2, ?_⟩
        rw [if_neg (by decide), List.append_nil]
        exact hD2
      | true =>
        refine iteTT rfl ⟨.int ((i : Nat) : Int), rfl, _, hD2, ?_, fun b' o eb => ?_, ?_⟩
        · rw [List.length_map]
          have := spt_len (e.items.take i) 0
          rw [List.length_take] at this
          exact small1000 (by omega)
        · rw [upd_ne (ne_of_none eb nD)]
          exact sm2 _ _ eb
        · rw [if_pos rfl, List.map_append]
          exact upd_same
    · rintro H1 ⟨sm1, hD1⟩
      rw [wl, List.take_length] at hD1
      have hsp : ((spt 0 e.items).map fun j : Nat => V.int (j : Int)) = ((spt 0 e.items).map fun j : Nat => (j : Int)).map V.int := by rw [List.map_map]; rfl
      have hh1 := hh.same sm1
      have hDa : D ≠ a := hh.ne nD
      refine ⟨.ref D, rfl, (by show 0 ≤ sizeLine; decide), fun l0 n0 => ?_⟩
      have s2 := same_new (o := .lst []) n0
      have hD2 := s2 _ _ hD1
      have hh2 := hh1.new (o := .lst []) n0
      have sm2 := sm1.trans s2
      have hl0 : (upd H1 l0 (.lst [])) l0 = some (.lst []) := upd_same
      refine ⟨.list (((spt 0 e.items).map fun j : Nat => (j : Int)).map PyData.int), .list [], .lst (SqL.of (by rw [hsp] at hD2; exact hD2)) (dp_ints _), .lst (SqL.of hl0) .nil, shaped_ints _, rfl, _, rfl, ?_⟩
      clear hl0
      generalize upd H1 l0 (.lst []) = H2 at s2 hD2 hh2 sm2
      have oth : ∀ {H3 : Hp} {k' : Nat}, But a H2 H3 → HandAt H3 a k' → k' ≤ k + 1 → spOther K [.ref a, .ref p, .int (many : Int)] H3 Q E := fun {H3 k'} b3 hh3 hk' => by
        refine ⟨a, .ref p, e, many, k', rfl, hm1, hm2, hh3, by omega, (he.same sm2).but b3 hh2, ho, fun H4 u e' b4 hh4 hu hf => ?_⟩
        exact q _ u e' (((But.of sm2).trans b3).trans b4) (hh4.le (by omega)) hu hf
      cases hsl : spt 0 e.items with
      | nil => exact iteTT rfl ⟨.ref a, rfl, .ref p, rfl, .int (many : Int), rfl, oth (But.refl _ _) hh2 (by omega)⟩
      | cons s0 sr =>
        refine iteFF rfl ⟨.ref a, rfl, a, 3, _, rfl, by decide, by decide, hh2, by omega, fun H3 z b3 hh3 z0 z1 => ⟨rfl, _, rfl, iteD (fun c => ?_) (fun c => ?_)⟩⟩
        · exact ⟨.ref a, rfl, .ref p, rfl, .int (many : Int), rfl, oth b3 hh3 (by omega)⟩
        · have hD3 := b3 _ _ hDa hD2
          rw [hsl] at hD3
          have hln := spt_len e.items 0
          rw [hsl] at hln
          refine ⟨.ref a, rfl, .ref D, rfl, a, D, _, _, rfl, hDa.symm, hD3, by simp, by rw [List.length_map]; omega, hh3, by omega, fun H4 u b4 hh4 hu => ?_⟩
          obtain ⟨j, hj, rfl⟩ := List.mem_map.mp hu
          rw [← hsl] at hj
          obtain ⟨kd, _, hkd⟩ := spt_mem hj
          rw [Nat.sub_zero] at hkd
          have b24 := b3.trans b4
          have sq4 : ∀ p xs, SqT K H p xs → SqT K H4 p xs := fun _ _ h => b24.sq hh2 (same_sqt sm2 h)
          have hp4 := sq4 _ _ hp
          have hits4 := hits.sq sq4
          have hjl : j < ws.length := by
            rw [wl]
            exact (List.getElem?_eq_some_iff.mp hkd).1
          obtain ⟨tm, htm, hit⟩ := hits4.get (List.getElem?_eq_getElem hjl)
          rw [hkd] at htm
          cases htm
          obtain ⟨okd, dkd⟩ := kid_ok ho hkd
          refine ⟨.ref a, rfl, .ref p, rfl, .int (j : Int), rfl, p, ws, (j : Int), _, rfl, rfl, hp4, at_of (j := j) rfl (List.getElem?_eq_getElem hjl), .int (many : Int), rfl, a, _, kd, many, _, rfl, hm1, hm2, hh4, by omega, hit, okd, by omega, fun H5 u e' b5 hh5 hu hf => ?_⟩
          have hp5 := b5.sq hh4 hp4
          have hits5 := hits4.sq fun _ _ q => b5.sq hh4 q
          refine ⟨.ref p, rfl, .int (j : Int), rfl, (j : Int), rfl, slA hp5 fun H6 p6 sm6 hp6 => ?_⟩
          rw [cut_to (Nat.le_of_lt hjl)] at hp6
          refine ⟨u, rfl, (by show 1 ≤ sizeLine; decide), fun t7 n7 => ?_⟩
          have s7 := same_new (o := .tup [u]) n7
          have hlw : ws.length ≤ 5 := by omega
          refine catA (same_sqt s7 hp6) (SqT.of upd_same) (Nat.le_of_lt (small1000 (by rw [List.length_take]; show _ + 1 ≤ 1000; omega))) fun H8 p8 sm8 hp8 => ?_
          have sm58 := (sm6.trans s7).trans sm8
          refine ⟨.ref p, rfl, .int (j : Int), rfl, _, _, rfl, rfl, _, rfl, ?_⟩
          refine slA (K := K) (lo := some ((j : Int) + 1)) (hi := none) (Q := fun y H2 => rCatA K (.ref p8) y H2 Q) (same_sqt sm58 hp5) fun H9 p9 sm9 hp9 => ?_
          rw [show (j : Int) + 1 = ((j + 1 : Nat) : Int) by omega, cut_from (by omega)] at hp9
          refine catA (same_sqt sm9 hp8) hp9 (Nat.le_of_lt (small1000 (by rw [List.length_append, List.length_take, List.length_drop]; show _ + 1 + _ ≤ 1000; omega))) fun H10 p10 sm10 hp10 => ?_
          have sm510 := (sm58.trans sm9).trans sm10
          obtain ⟨e2, hi2, fit2⟩ := set_kid ho hkd hf
          have hset : ws.take j ++ [u] ++ ws.drop (j + 1) = ws.set j u := by
            rw [List.set_eq_take_append_cons_drop, if_pos hjl, List.append_assoc]
            rfl
          rw [hset] at hp10
          have hits10 := (hits5.sq fun _ _ q => same_sqt sm510 q).setK (t := .k e') (v := u) (ExAt.same (e := e') hu sm510) j
          rw [← hi2] at hits10
          exact q _ _ e2 (((But.of sm2).trans (b24.trans b5)).trans (But.of sm510)) ((hh5.same sm510).le (by omega)) (ExAt.of_its hp10 hits10) fit2
end
end NG

namespace NG
open PySem PySem.Spec PyProof.Rows L2
def ShsAt (K : PySem.W.Frag) (H : Hp) (many : Nat) (vs : List V) : Prop := ∀ v ∈ vs, ∃ ms, ShAt K H many ms v
theorem ShsAt.imp {K : PySem.W.Frag} {H H' : Hp} {many : Nat} {vs : List V} (x : ShsAt K H many vs) (h : ∀ p xs, SqT K H p xs → SqT K H' p xs) : ShsAt K H' many vs := fun v hv => by
  obtain ⟨ms, hm⟩ := x v hv
  exact ⟨ms, hm.imp h⟩
theorem ShsAt.snoc {K : PySem.W.Frag} {H : Hp} {many : Nat} {vs : List V} {v : V} {ms : List Int} (x : ShsAt K H many vs) (h : ShAt K H many ms v) : ShsAt K H many (vs ++ [v]) := fun u hu => by
  rcases List.mem_append.mp hu with hu | hu
  · exact x u hu
  · rw [List.mem_singleton.mp hu]
    exact ⟨ms, h⟩
def spRight (K : PySem.W.Frag) : Sp := fun vs H Q _ => ∃ (a : Addr) (many n : Nat), vs = [.ref a, .int (many : Int)] ∧ 2 ≤ many ∧ many ≤ 3 ∧ HandAt H a n ∧ n ≤ 1000 ∧ ∀ H', But a H H' → Q (.bl true) H'
theorem rep_int (c : Int) : ∀ m, (List.replicate m [V.int c]).flatten = List.replicate m (V.int c)
  | 0 => rfl
  | m + 1 => by
    rw [List.replicate_succ, List.flatten_cons, rep_int c m]
    rfl
section
variable {P : Program} {w : World} {K : PySem.W.Frag} {mg : Str → Option Value} {base : Heap}
theorem ok_right {f : Addr} {fd : FuncData} (F : Fun K "_law_right" "_law_right" s_L_right f fd) (gF : mg "_law_right" = some (.ref f)) (b : Binds K fd ["_law_hand_here", "_law_many"] []) (B : Bl mg) (c_L_take : Cal P w K mg base 1 "_law_take" spTake) (c_L_figure : Cal P w K mg base 3 "_law_figure" spFigure) (c_L_expression : Cal P w K mg base 7 "_law_expression" (spExpr K 3)) (c_L_turned : Cal P w K mg base 14 "_law_turned" (spTurned K 8)) (c_L_size : Cal P w K mg base 12 "_law_size" (spMeas K sz 10)) (c_L_deep : Cal P w K mg base 12 "_law_deep" (spMeas K dpI 10)) (c_L_shares : Cal P w K mg base 3 "_law_shares" (spShares K)) (c_L_lowest : Cal P w K mg base 1 "_law_lowest" (spLow K)) (c_L_registers : Cal P w K mg base 4 "_law_registers" (spRegs K)) (c_worth : Cal P w K mg base 10 "worth" (spWorth K 8)) : Cal P w K mg base 15 "_law_right" (spRight K) := by
  refine ⟨f, fd, _, F.ok sc_L_right (fun vs H Q E h => ?_) (fun cdv A outer s H vs Q E hr h => ?_), gF, F.kp, b⟩
  · obtain ⟨_, _, _, rfl, _⟩ := h
    rfl
  · obtain ⟨a, many, n, rfl, hm1, hm2, hh, hn, q⟩ := h
    refine ⟨_, (pss_cons (ps_set (i := 2) sc_L_right.nd rfl (.inl rfl) (pe_lst (pa_cons (pe_c c_L_expression hr (by omega) (by rfl) (pa_cons (pv 0) (pa_cons (pv 1) (pa_cons (pe_op op_add pe_int (pe_c c_L_take hr (by omega) (by rfl) (pa_cons (pv 0) (pa_cons pe_int pa_nil)))) (pa_cons pe_int pa_nil))))) pa_nil))) (pss_cons (ps_for PassesOwn.never rfl (pi_range1 rfl B.range (pa_cons pe_int pa_nil)) (pg_name (i := 3) sc_L_right.nd rfl (.inl rfl)) (pss_cons (ps_set (i := 4) sc_L_right.nd rfl (.inl rfl) (pe_c c_L_turned hr (by omega) (by rfl) (pa_cons (pv 0) (pa_cons (pe_ix ix_list (pv 2) (pe_un un_neg pe_int) (fun _ _ => rfl)) (pa_cons (pv 1) pa_nil))))) (pss_one (ps_if (PW.pt (pw_and (pt_cmpR op_le (pe_c c_L_size hr (by omega) (by rfl) (pa_cons (pv 4) pa_nil)) pe_int (nomark _)) (pw_and1 (pt_cmpR op_le (pe_c c_L_deep hr (by omega) (by rfl) (pa_cons (pv 4) pa_nil)) pe_int (nomark _))))) (pss_one (ps_expr (pe_bm PySem.F.plainAttrs_list PySem.F.slot_list_append PySem.F.type_list_append mt_append (pv 2) (pa_cons (pv 4) pa_nil)))) pss_nil)))) (pss_cons (ps_setLc (i := 5) (own := [("_law_turn", 3)]) rfl sc_L_right.nd rfl rfl (sw_true rfl rfl rfl (by decide +kernel)) (pi_range1 rfl B.range (pa_cons pe_int pa_nil)) (blkOk_by (N := N_L_right) (sc := defScope s_L_right) (by decide +kernel)) (fun _ _ _ _ _ => pg_name (i := 3) sc_L_right.nd rfl (.inl rfl)) (fun _ _ _ _ _ => pts_nil) (fun _ _ _ _ _ => pe_c c_L_shares hr (by omega) (by rfl) (pa_cons (pv 0) (pa_cons (pv 1) pa_nil)))) (pss_cons (ps_expr (pe_bm PySem.F.plainAttrs_list PySem.F.slot_list_append PySem.F.type_list_append mt_append (pv 5) (pa_cons (pe_c c_L_lowest hr (by omega) (by rfl) (pa_cons (pe_op op_cat (pe_lst (pa_cons (pe_op op_add pe_int (pe_c c_L_take hr (by omega) (by rfl) (pa_cons (pv 0) (pa_cons pe_int pa_nil)))) pa_nil)) (pe_op op_rep (pe_lst (pa_cons pe_int pa_nil)) (pe_op op_sub (pv 1) pe_int))) pa_nil)) pa_nil))) (pss_cons (ps_set (i := 6) sc_L_right.nd rfl (.inl rfl) (pe_lst (pa_cons (pe_c c_L_registers hr (by omega) (by rfl) (pa_cons (pv 0) pa_nil)) (pa_cons (pe_tup (pa_cons pe_int (pa_cons pe_int (pa_cons (pe_un un_neg pe_int) (pa_cons (pe_c c_L_figure hr (by omega) (by rfl) (pa_cons (pv 0) pa_nil)) pa_nil))))) pa_nil)))) (pss_cons (ps_for PassesOwn.never rfl (pi_list (pv 5)) (pg_name (i := 7) sc_L_right.nd rfl (.inr rfl)) (pss_one (ps_for PassesOwn.never rfl (pi_list (pv 6)) (pg_name (i := 8) sc_L_right.nd rfl (.inr rfl)) (pss_cons (ps_setLc (i := 9) (own := [("_law_made", 4)]) rfl sc_L_right.nd rfl rfl (sw_true rfl rfl rfl (by decide +kernel)) (pi_list (pv 2)) (blkOk_by (N := N_L_right) (sc := defScope s_L_right) (by decide +kernel)) (fun _ _ _ _ _ => pg_name (i := 4) sc_L_right.nd rfl (.inl rfl)) (fun _ _ _ _ _ => pts_nil) (fun _ _ _ _ _ => pe_c c_worth hr (by omega) (by rfl) (pa_cons (pv 4) (pa_cons (pv 8) (pa_cons (pv 7) pa_nil))))) (pss_one (ps_if (pt_cmpR (op_neD hr.units) (pv 9) (pe_op op_rep (pe_slice sl_list (pv 9) po_none (po_some pe_int)) (pe_callB call_len_seq (by rfl) B.len PySem.boot_len (pa_cons (pv 2) pa_nil))) (nomark _)) (pss_one (ps_ret pe_bl)) pss_nil)))))) (pss_one (ps_ret pe_bl)))))))), ?_⟩
    refine ⟨.ref a, rfl, .int (many : Int), rfl, .ref a, rfl, a, 2, _, rfl, by decide, by decide, hh, by omega, fun H1 r b1 hh1 r0 r1 => ⟨_, _, rfl, rfl, ?_⟩⟩
    obtain ⟨lv, rfl⟩ : ∃ l' : Nat, r = (l' : Int) := ⟨r.toNat, by omega⟩
    have hcl : cost (1 + lv) ≤ 84 := by
      have : lv = 0 ∨ lv = 1 := by omega
      rcases this with rfl | rfl <;> decide
    refine ⟨a, many, 1 + lv, _, rfl, by omega, by omega, by omega, hh1, by omega, fun H2 v0 e0 b2 hh2 he0 ho0 hd0 => ⟨(by show 1 ≤ sizeLine; decide), fun so nso2 => ?_⟩⟩
    have b02 := b1.trans b2
    have nso : H so = none := But.free b02 hh.choose_spec.choose_spec.choose_spec.1 nso2 (fun z => absurd rfl (hh2.ne z))
    have hsa : so ≠ a := hh2.ne nso2
    have s3 := same_new (o := .lst [v0]) nso2
    have hs3 : (upd H2 so (.lst [v0])) so = some (.lst [v0]) := upd_same
    have he3 := he0.same s3
    have hh3 := (hh2.new (o := .lst [v0]) nso2).le (k := n + 100) (by omega)
    have b03 := b02.trans (But.of s3)
    clear s3
    generalize upd H2 so (.lst [v0]) = H3 at hs3 he3 hh3 b03
    refine ⟨9, rfl, by decide, by decide, ?_⟩
    refine for_range (n := (9 : Int).toNat) (fun t σ H' => ∃ y3 y4 us x es e, σ = [some (.ref a), some (.int (many : Int)), some (.ref so), y3, y4, none, none, none, none, none] ∧ But a H H' ∧ HandAt H' a (n + 100 + 200 * t) ∧ H' so = some (.lst (us ++ [x])) ∧ RowsAt K H' us es ∧ ExAt K H' e x ∧ us.length ≤ t ∧ ∀ e' ∈ es ++ [e], ExOk many e' ∧ e'.dep ≤ 8 ∧ Sm e0 e') ⟨none, none, [], v0, [], e0, rfl, b03, hh3, hs3, trivial, he3, Nat.le_refl _, fun e' h' => ?_⟩ ?_ ?_
    · have h' : e' = e0 := by simpa using h'
      subst h'
      exact ⟨ho0, by omega, Sm.refl _⟩
    · rintro t σ H4 ht ⟨y3, y4, us, x, es, e, rfl, b4, hh4, hs4, rows4, he4, hul, all4⟩
      have ht : t < 9 := ht
      obtain ⟨oe, de, se⟩ := all4 e (by simp)
      refine ⟨.ref a, rfl, .ref so, rfl, 1, rfl, so, _, -1, x, rfl, rfl, SqL.of hs4, atI_last us x, .int (many : Int), rfl, a, x, e, many, _, rfl, hm1, hm2, hh4, by omega, he4, oe, de, fun H5 u e' b5 hh5 hu hf => ?_⟩
      obtain ⟨fo, fd', fs⟩ := hf
      have hs5 := b5 _ _ hsa hs4
      have rows5 := rows4.imp fun _ _ q => b5.sq hh4 q
      have he5 := he4.but b5 hh4
      have b05 := b4.trans b5
      have hh5 : HandAt H5 a (n + 100 + 200 * (t + 1)) := hh5.le (by omega)
      refine ⟨u, rfl, u, e', rfl, hu, by omega, fun H6 sm6 => ⟨_, 40, rfl, rfl, _, rfl, iteD (fun c1 => ?_) (fun c1 => iteFF rfl ?_)⟩⟩
      · refine ⟨u, rfl, u, e', rfl, hu.same sm6, by omega, fun H7 sm7 => ⟨_, 8, rfl, rfl, _, rfl, iteD (fun c2 => ?_) (fun c2 => ?_)⟩⟩
        · have sm57 := sm6.trans sm7
          have hs7 := sm57 _ _ hs5
          have c2 : e'.dep ≤ 8 := by
            have c2 : (e'.dep : Int) ≤ 8 := c2
            omega
          refine ⟨.ref so, rfl, .inl ⟨rfl, _, SqL.of hs7⟩, u, rfl, so, _, u, rfl, rfl, hs7, small1000 (by rw [List.length_append]; show _ + 1 ≤ 1000; omega), ?_⟩
          refine ⟨_, _, us ++ [x], u, es ++ [e], e', rfl, fun b' o nb eb => ?_, (hh5.same sm57).put hsa, upd_same, ((RowsAt.snoc he5 rows5).same sm57).imp fun _ _ q => put_sqt hs7 q, (hu.same sm57).imp fun _ _ q => put_sqt hs7 q, by rw [List.length_append]; show _ + 1 ≤ _; omega, fun z hz => ?_⟩
          · rw [upd_ne (ne_of_none eb nso)]
            exact sm57 _ _ (b05 _ _ nb eb)
          · rcases List.mem_append.mp hz with hz | hz
            · exact all4 z hz
            · rw [List.mem_singleton.mp hz]
              exact ⟨fo, c2, se.trans fs⟩
        · have sm57 := sm6.trans sm7
          exact ⟨_, _, us, x, es, e, rfl, b05.trans (But.of sm57), hh5.same sm57, sm57 _ _ hs5, rows5.same sm57, he5.same sm57, by omega, all4⟩
      · exact ⟨_, _, us, x, es, e, rfl, b05.trans (But.of sm6), hh5.same sm6, sm6 _ _ hs5, rows5.same sm6, he5.same sm6, by omega, all4⟩
    · rintro σ H4 ⟨y3, y4, us, x, es, e, rfl, b4, hh4, hs4, rows4, he4, hul, all4⟩
      have hh4 : HandAt H4 a (n + 1900) := hh4.le (by show n + 100 + 200 * 9 ≤ _; omega)
      have hul : us.length ≤ 9 := hul
      have rows4 := RowsAt.snoc he4 rows4
      have hwl := rows4.len
      refine ⟨4, rfl, by decide, by decide, fun D nD => lc_range (n := (4 : Int).toNat) (fun i H' => ∃ qs, But a H4 H' ∧ HandAt H' a (n + 1900 + 20 * i) ∧ H' D = some (.lst qs) ∧ qs.length = i ∧ ShsAt K H' many qs) ⟨[], But.new nD, hh4.new nD, upd_same, rfl, fun v hv => by cases hv⟩ ?_ ?_⟩
      · rintro i H5 hi ⟨qs, b5, hh5, hD5, hql, hqs⟩
        have hi : i < 4 := hi
        have hDa : D ≠ a := hh4.ne nD
        refine ⟨rfl, tYes_in ?_⟩
        refine ⟨.ref a, rfl, .int (many : Int), rfl, a, many, _, rfl, by omega, hm2, hh5, by omega, fun H6 v ms b6 hh6 hv => ?_⟩
        have hD6 := b6 _ _ hDa hD5
        refine ⟨qs, hD6, small1000 (by omega), qs ++ [v], fun b' o nb eb => ?_, (hh6.le (by omega)).put hDa, upd_same, by rw [List.length_append, hql]; rfl, ((hqs.imp fun _ _ q => b6.sq hh5 q).imp fun _ _ q => put_sqt hD6 q).snoc (hv.imp fun _ _ q => put_sqt hD6 q)⟩
        rw [upd_ne (ne_of_none eb nD)]
        exact b6 _ _ nb (b5 _ _ nb eb)
      · rintro H5 ⟨qs, b5, hh5, hD5, hql, hqs⟩
        have hql : qs.length = 4 := hql
        have hDa : D ≠ a := hh4.ne nD
        have hDs : D ≠ so := fun z => by rw [z, hs4] at nD; cases nD
        have hh5 : HandAt H5 a (n + 1980) := hh5
        have hs5 := b5 _ _ hsa hs4
        have rows5 := rows4.imp fun _ _ q => b5.sq hh4 q
        have b05 := b4.trans b5
        refine ⟨.ref D, rfl, .inl ⟨rfl, _, SqL.of hD5⟩, .ref a, rfl, a, 999, _, rfl, by decide, by decide, hh5, by omega, fun H6 r b6 hh6 r0 r1 => ⟨1, _, rfl, rfl, (by show 1 ≤ sizeLine; decide), fun l1 n1 => ?_⟩⟩
        have s1 := same_new (o := .lst [.int (1 + r)]) n1
        refine ⟨(by show 1 ≤ sizeLine; decide), fun l2 n2 => ?_⟩
        have s2 := same_new (o := .lst [.int 500]) n2
        refine ⟨.int (many : Int), rfl, _, 1, rfl, rfl, l2, _, [.int 500], rfl, rfl, upd_same, by omega, by omega, Nat.le_of_lt (small1000 (by show 1 * _ ≤ 1000; omega)), fun l3 n3 => ?_⟩
        have s3 := same_new (o := .lst (List.replicate ((many : Int) - 1).toNat [V.int 500]).flatten) n3
        have h1 := s3 _ _ (s2 _ _ (upd_same (H := H6) (a := l1) (o := .lst [.int (1 + r)])))
        have sm13 := s1.trans (s2.trans s3)
        have h3 : (upd (upd (upd H6 l1 (.lst [.int (1 + r)])) l2 (.lst [.int 500])) l3 (.lst (List.replicate ((many : Int) - 1).toNat [V.int 500]).flatten)) l3 = some (.lst (List.replicate ((many : Int) - 1).toNat [V.int 500]).flatten) := upd_same
        clear s1 s2 s3
        generalize upd (upd (upd H6 l1 (.lst [.int (1 + r)])) l2 (.lst [.int 500])) l3 (.lst (List.replicate ((many : Int) - 1).toNat [V.int 500]).flatten) = H7 at h1 sm13 h3
        rw [rep_int] at h3
        refine ⟨l1, l3, _, _, rfl, rfl, h1, h3, Nat.le_of_lt (small1000 (by rw [List.length_replicate]; show 1 + _ ≤ 1000; omega)), fun l4 n4 => ?_⟩
        have s4 := same_new (o := .lst ([.int (1 + r)] ++ List.replicate ((many : Int) - 1).toNat (V.int 500))) n4
        have sm14 := sm13.trans s4
        have h4 : (upd H7 l4 (.lst ([.int (1 + r)] ++ List.replicate ((many : Int) - 1).toNat (V.int 500)))) l4 = some (.lst (((1 + r) :: List.replicate (many - 1) 500).map V.int)) := by
          rw [upd_same, show ((many : Int) - 1).toNat = many - 1 by omega]
          simp
        clear s4
        generalize upd H7 l4 (.lst ([.int (1 + r)] ++ List.replicate ((many : Int) - 1).toNat (V.int 500))) = H8 at sm14 h4
        refine ⟨l4, (1 + r) :: List.replicate (many - 1) 500, 1 + r, rfl, h4, fun x hx => ?_, by rw [List.length_cons, List.length_replicate]; omega, List.mem_cons_self, by omega, fun H9 v ms sm9 hv => ?_⟩
        · rcases List.mem_cons.mp hx with rfl | hx
          · exact ⟨by omega, by omega⟩
          · rw [(List.mem_replicate.mp hx).2]
            decide
        have hv : ShAt K H9 many ms v := by
          have e1 : ((1 + r) :: List.replicate (many - 1) (500 : Int)).length = many := by rw [List.length_cons, List.length_replicate]; omega
          rw [e1] at hv
          exact hv
        have sm69 := sm14.trans sm9
        have b59 : But a H5 H9 := b6.trans (But.of sm69)
        have hD9 := b59 _ _ hDa hD5
        have hs9 := b59 _ _ hsa hs5
        have hh9 := hh6.same sm69
        have sq59 : ∀ p xs, SqT K H5 p xs → SqT K H9 p xs := fun _ _ h => same_sqt sm69 (b6.sq hh5 h)
        refine ⟨D, qs, v, rfl, rfl, hD9, small1000 (by omega), ?_⟩
        have hsX : (upd H9 D (.lst (qs ++ [v]))) so = some (.lst (us ++ [x])) := by rw [upd_ne (Ne.symm hDs)]; exact hs9
        have hhX := hh9.put (o := .lst (qs ++ [v])) hDa
        have hDX : (upd H9 D (.lst (qs ++ [v]))) D = some (.lst (qs ++ [v])) := upd_same
        have rowsX := (rows5.imp sq59).imp fun _ _ q => put_sqt (us' := qs ++ [v]) hD9 q
        have shsX := ((hqs.imp sq59).snoc hv).imp fun _ _ q => put_sqt (us' := qs ++ [v]) hD9 q
        have bX : But a H (upd H9 D (.lst (qs ++ [v]))) := fun b' o nb eb => by
          have h4' := b4 _ _ nb eb
          rw [upd_ne (ne_of_none h4' nD)]
          exact b59 _ _ nb (b5 _ _ nb h4')
        generalize upd H9 D (.lst (qs ++ [v])) = HX at hsX hhX hDX rowsX shsX bX
        refine ⟨.ref a, rfl, a, _, rfl, hhX, by omega, fun H10 rv rs b10 hh10 hR => ⟨_, rfl, .ref a, rfl, a, _, rfl, hh10, by omega, fun H11 c b11 hh11 c0 c1 => ⟨(by show 4 ≤ sizeLine; decide), fun t12 n12 => ?_⟩⟩⟩
        have s12 := same_new (o := .tup [.int 0, .int 1000, .int (-1000), .int c]) n12
        refine ⟨(by show 2 ≤ sizeLine; decide), fun bo n13 => ?_⟩
        have s13 := same_new (o := .lst [rv, .ref t12]) n13
        have b1011 := b10.trans b11
        have sq13 : ∀ p xs, SqT K HX p xs → SqT K _ p xs := fun _ _ h => same_sqt s13 (same_sqt s12 (b11.sq hh10 (b10.sq hhX h)))
        have hs13 := s13 _ _ (s12 _ _ (b1011 _ _ hsa hsX))
        have hD13 := s13 _ _ (s12 _ _ (b1011 _ _ hDa hDX))
        have hb13 : (upd (upd H11 t12 (.tup [.int 0, .int 1000, .int (-1000), .int c])) bo (.lst [rv, .ref t12])) bo = some (.lst [rv, .ref t12]) := upd_same
        have rows13 := rowsX.imp sq13
        have shs13 := shsX.imp sq13
        have b13 := (bX.trans b1011).trans (But.of (s12.trans s13))
        have both13 : ∀ u ∈ [rv, V.ref t12], ∃ rs, RegsAt K (upd (upd H11 t12 (.tup [.int 0, .int 1000, .int (-1000), .int c])) bo (.lst [rv, .ref t12])) rs u := fun u hu => by
          simp only [List.mem_cons, List.not_mem_nil, or_false] at hu
          rcases hu with rfl | rfl
          · exact ⟨rs, hR.imp fun _ _ h => same_sqt s13 (same_sqt s12 (b11.sq hh10 h))⟩
          · refine ⟨[0, 1000, -1000, c], t12, rfl, same_sqt s13 (SqT.of upd_same), rfl, fun x hx => ?_⟩
            simp only [List.mem_cons, List.not_mem_nil, or_false] at hx
            rcases hx with rfl | rfl | rfl | rfl
            · decide
            · decide
            · decide
            · exact ⟨c0, c1⟩
        clear sq13 s12 s13
        generalize upd (upd H11 t12 (.tup [.int 0, .int 1000, .int (-1000), .int c])) bo (.lst [rv, .ref t12]) = HZ at hs13 hD13 hb13 rows13 shs13 b13 both13
        refine ⟨.ref D, rfl, D, rfl, ⟨_, SqL.of hD13⟩, for_list (xs := qs ++ [v]) (fun i σ H' => ∃ z4 y7 y8 y9, σ = [some (.ref a), some (.int (many : Int)), some (.ref so), y3, z4, some (.ref D), some (.ref bo), y7, y8, y9] ∧ Same HZ H') ⟨_, _, _, _, rfl, Same.refl _⟩ ?_ ?_ ?_⟩
        · rintro i σ H' _ ⟨_, _, _, _, _, sm⟩
          exact SqL.of (sm _ _ hD13)
        · rintro i sv σ H14 hi ⟨z4, y7, y8, y9, rfl, sm14⟩
          obtain ⟨ss, hSS⟩ := shs13 sv (List.mem_of_getElem? hi)
          refine ⟨.ref bo, rfl, bo, rfl, ⟨_, SqL.of (sm14 _ _ hb13)⟩, for_list (xs := [rv, .ref t12]) (fun k σ H' => ∃ z4 y8 y9, σ = [some (.ref a), some (.int (many : Int)), some (.ref so), y3, z4, some (.ref D), some (.ref bo), some sv, y8, y9] ∧ Same HZ H') ⟨_, _, _, rfl, sm14⟩ ?_ ?_ ?_⟩
          · rintro k σ H' _ ⟨_, _, _, _, sm⟩
            exact SqL.of (sm _ _ hb13)
          · rintro k ru σ H15 hk ⟨z4', y8', y9', rfl, sm15⟩
            obtain ⟨rr, hRR⟩ := both13 ru (List.mem_of_getElem? hk)
            have hs15 := sm15 _ _ hs13
            refine ⟨.ref so, rfl, so, rfl, ⟨_, SqL.of hs15⟩, fun D2 nD2 => lc_list (xs := us ++ [x]) (fun k H' => Same H15 H' ∧ H' D2 = some (.lst (List.replicate k (V.int (wo rr ss e0))))) ⟨same_new nD2, upd_same⟩ (fun k H' _ h => SqL.of (h.1 _ _ hs15)) ?_ ?_⟩
            · rintro j u H16 hj ⟨sm16, hD16⟩
              have hjl := (List.getElem?_eq_some_iff.mp hj).1
              rw [List.length_append] at hjl
              have hjl : j < us.length + 1 := hjl
              obtain ⟨e', he', xe'⟩ := rows13.get' hj
              obtain ⟨o', d', s'⟩ := all4 e' (List.mem_of_getElem? he')
              have smz := sm15.trans sm16
              refine ⟨rfl, tYes_in ?_⟩
              refine ⟨u, rfl, ru, rfl, sv, rfl, u, ru, sv, e', many, rr, ss, rfl, xe'.same smz, o', d', hRR.same smz, hSS.same smz, ?_⟩
              rw [s' rr ss]
              refine ⟨_, hD16, ?_, fun b' o eb => ?_, ?_⟩
              · rw [List.length_replicate]
                exact small1000 (by omega)
              · rw [upd_ne (ne_of_none eb nD2)]
                exact sm16 _ _ eb
              · rw [upd_same, List.replicate_succ']
            · rintro H16 ⟨sm16, hD16⟩
              have smz := sm15.trans sm16
              have hs16 := smz _ _ hs13
              have hul1 : (us ++ [x]).length = us.length + 1 := by rw [List.length_append]; rfl
              rw [hul1] at hD16
              refine ⟨.ref D2, rfl, .ref D2, rfl, 1, rfl, D2, _, rfl, SqL.of hD16, fun p np => ?_⟩
              have hcut : cutV (List.replicate (us.length + 1) (V.int (wo rr ss e0))) none (some 1) = [V.int (wo rr ss e0)] := by
                rw [show (1 : Int) = ((1 : Nat) : Int) from rfl, cut_to (by rw [List.length_replicate]; omega), List.replicate_succ]
                rfl
              rw [hcut]
              have s17 := same_new (o := .lst [V.int (wo rr ss e0)]) np
              refine ⟨.ref so, rfl, so, _, rfl, .inl (SqL.of (s17 _ _ hs16)), p, _, _, rfl, rfl, upd_same, by omega, by rw [hul1]; omega, Nat.le_of_lt (small1000 (by rw [hul1]; show 1 * _ ≤ 1000; omega)), fun p2 np2 => ?_⟩
              rw [hul1, rep_int, show (((us.length + 1 : Nat) : Int)).toNat = us.length + 1 by omega]
              have s18 := same_new (o := .lst (List.replicate (us.length + 1) (V.int (wo rr ss e0)))) np2
              have emap : List.replicate (us.length + 1) (V.int (wo rr ss e0)) = (List.replicate (us.length + 1) (wo rr ss e0)).map V.int := by rw [List.map_replicate]
              have hA := s18 _ _ (s17 _ _ hD16)
              have hB : (upd (upd H16 p (.lst [V.int (wo rr ss e0)])) p2 (.lst (List.replicate (us.length + 1) (V.int (wo rr ss e0))))) p2 = some (.lst (List.replicate (us.length + 1) (V.int (wo rr ss e0)))) := upd_same
              have smf := smz.trans (s17.trans s18)
              clear s17 s18
              generalize upd (upd H16 p (.lst [V.int (wo rr ss e0)])) p2 (.lst (List.replicate (us.length + 1) (V.int (wo rr ss e0)))) = HF at hA hB smf
              rw [emap] at hA hB
              have eqq : PyData.eqv (.list ((List.replicate (us.length + 1) (wo rr ss e0)).map PyData.int)) (.list ((List.replicate (us.length + 1) (wo rr ss e0)).map PyData.int)) = true := PySem.SeqAt.eqv_refl _ (by
                have h := shaped_ints (List.replicate (us.length + 1) (wo rr ss e0))
                have h : (PyData.canLay0 (.list ((List.replicate (us.length + 1) (wo rr ss e0)).map PyData.int)) && _) = true := h
                exact (Bool.and_eq_true_iff.mp h).1)
              refine ⟨_, _, .lst (SqL.of hA) (dp_ints _), .lst (SqL.of hB) (dp_ints _), shaped_ints _, shaped_ints _, _, rfl, iteFF (by rw [eqq]; rfl) ?_⟩
              exact ⟨_, _, _, rfl, smf⟩
          · rintro σ H15 ⟨z4', y8', y9', rfl, sm15⟩
            exact ⟨_, _, _, _, rfl, sm15⟩
        · rintro σ H14 ⟨z4, y7, y8, y9, rfl, sm14⟩
          exact q _ (b13.trans (But.of sm14))
def spLaw (K : PySem.W.Frag) : Sp := fun vs H Q _ => ∃ (a : Addr) (ns : List Int), vs = [.ref a] ∧ SqL K H a (ns.map V.int) ∧ ns.length ≤ 63 ∧ ∀ H', Q (.bl true) H'
theorem ok_law {f : Addr} {fd : FuncData} (F : Fun K "law" "law" s_law f fd) (B : Bl mg) (c_L_hand : Cal P w K mg base 1 "_law_hand" (spHand K)) (c_L_right : Cal P w K mg base 15 "_law_right" (spRight K)) : FnOk P w K mg base CX0 16 f fd ["_law_script"] (spLaw K) := by
  refine F.ok sc_law (fun vs H Q E h => ?_) (fun cdv A outer s H vs Q E hr h => ?_)
  · obtain ⟨_, _, rfl, _⟩ := h
    rfl
  · obtain ⟨sc, ns, rfl, hS, hl, q⟩ := h
    refine ⟨_, (pss_one (ps_ret (pe_callB (cr_all rfl) (by rfl) B.all (by decide +kernel) (pa_cons (pe_lc (own := [("_law_k", 1)]) rfl sc_law.nd (pi_range1 rfl B.range (pa_cons (pe_op op_add pe_int (pe_callB (call_min2 rfl) (by rfl) B.min (by decide +kernel) (pa_cons pe_int (pa_cons (pe_callB call_len_seq (by rfl) B.len PySem.boot_len (pa_cons (pv 0) pa_nil)) pa_nil)))) pa_nil)) (blkOk_by (N := N_law) (sc := defScope s_law) (by decide +kernel)) (fun _ _ _ _ _ => pg_name (i := 1) sc_law.nd rfl (.inl rfl)) (fun _ _ _ _ _ => pts_nil) (fun _ _ _ _ _ => pe_c c_L_right hr (by omega) (by rfl) (pa_cons (pe_c c_L_hand hr (by omega) (by rfl) (pa_cons (pv 0) (pa_cons (pv 1) pa_nil))) (pa_cons (pe_op op_add pe_int (pe_op op_mod (pv 1) pe_int)) pa_nil)))) pa_nil)))), ?_⟩
    have hb : ∀ z : Int, (if z < 3 then z else 3) ≤ 3 := fun z => by split <;> omega
    have hb0 : ∀ z : Int, 0 ≤ z → 0 ≤ (if z < 3 then z else 3) := fun z hz => by split <;> omega
    have h3 := hb (((ns.map V.int).length : Nat) : Int)
    have h4 := hb0 (((ns.map V.int).length : Nat) : Int) (by omega)
    refine ⟨.ref sc, rfl, sc, _, rfl, .inl hS, _, _, rfl, _, _, rfl, rfl, _, rfl, by omega, by omega, fun D nD => lc_range (fun i H' => Same H H' ∧ H' D = some (.lst ((List.replicate i true).map V.bl))) ⟨same_new nD, upd_same⟩ ?_ ?_⟩
    · rintro i H1 hi ⟨sm1, hD1⟩
      have hi4 : i < 4 := by omega
      refine ⟨rfl, tYes_in ?_⟩
      refine ⟨.ref sc, rfl, .int (0 + (i : Int)), rfl, sc, _, ns, rfl, by omega, by omega, sm1.seq hS, fun p g sd np g0 sd0 => ?_⟩
      have hh1 : HandAt (upd H1 p (.lst [.int g, .int sd, .int 0])) p 0 := ⟨g, sd, 0, upd_same, g0, sd0, by decide, by decide⟩
      have b1 : But p H1 (upd H1 p (.lst [.int g, .int sd, .int 0])) := But.put
      generalize upd H1 p (.lst [.int g, .int sd, .int 0]) = H2 at hh1 b1
      obtain ⟨many, hmany, hm2, hm3⟩ : ∃ many : Nat, 2 + (0 + (i : Int)) % 2 = (many : Int) ∧ 2 ≤ many ∧ many ≤ 3 := ⟨(2 + (0 + (i : Int)) % 2).toNat, by omega, by omega, by omega⟩
      refine ⟨.int (0 + (i : Int)), rfl, _, 2, rfl, rfl, (by show (0 : Int) < 2; decide), _, _, rfl, rfl, p, many, 0, (by show [V.ref p, V.int (2 + (0 + (i : Int)) % 2)] = _; rw [hmany]), hm2, hm3, hh1, by decide, fun H3 b3 => ?_⟩
      have b13 := b1.trans b3
      have sm13 := b13.same np
      have hD3 := sm13 _ _ hD1
      refine ⟨_, hD3, ?_, fun b' o eb => ?_, ?_⟩
      · rw [List.length_map, List.length_replicate]
        exact small1000 (by omega)
      · rw [upd_ne (ne_of_none eb nD)]
        exact sm13 _ _ (sm1 _ _ eb)
      · rw [upd_same, List.replicate_succ', List.map_append]
        rfl
    · rintro H1 ⟨sm1, hD1⟩
      refine ⟨D, _, rfl, SqL.of hD1, ?_⟩
      rw [show ∀ m, (List.replicate m true).all id = true from fun m => by simp]
      exact q _
end
end NG

namespace NG
open PySem PySem.Spec PyProof.Rows L2
theorem all_mk {l : PySem.W.OpenLaw} {w : World} {K : PySem.W.Frag} {h : Heap} {mg : Str → Option Value} {fa f_led_part f_side_part f_join_worths f_worth f_L_hand f_L_take f_L_of f_L_figure f_L_leaf f_L_expression f_L_lowest f_L_shares f_L_registers f_L_parts f_L_size f_L_deep f_L_by_word f_L_other f_L_turned f_L_right f_law : Addr} (X : K.In h) (G : h.Ns mainGlobals mg) (hfa : mg "law" = some (.ref fa))
    {od_led_part an_led_part od_side_part an_side_part od_join_worths an_join_worths od_worth an_worth od_L_hand an_L_hand od_L_take an_L_take od_L_of an_L_of od_L_figure an_L_figure od_L_leaf an_L_leaf od_L_expression an_L_expression od_L_lowest an_L_lowest od_L_shares an_L_shares od_L_registers an_L_registers od_L_parts an_L_parts od_L_size an_L_size od_L_deep an_L_deep od_L_by_word an_L_by_word od_L_other an_L_other od_L_turned an_L_turned od_L_right an_L_right od_law an_law : Option Addr} {sl_led_part sl_side_part sl_join_worths sl_worth sl_L_hand sl_L_take sl_L_of sl_L_figure sl_L_leaf sl_L_expression sl_L_lowest sl_L_shares sl_L_registers sl_L_parts sl_L_size sl_L_deep sl_L_by_word sl_L_other sl_L_turned sl_L_right sl_law : Array (Option Value)} {oc_led_part kV_led_part dc_led_part pm_led_part cd_led_part ct_led_part oc_side_part kV_side_part dc_side_part pm_side_part cd_side_part ct_side_part oc_join_worths kV_join_worths dc_join_worths pm_join_worths cd_join_worths ct_join_worths oc_worth kV_worth dc_worth pm_worth cd_worth ct_worth oc_L_hand kV_L_hand dc_L_hand pm_L_hand cd_L_hand ct_L_hand oc_L_take kV_L_take dc_L_take pm_L_take cd_L_take ct_L_take oc_L_of kV_L_of dc_L_of pm_L_of cd_L_of ct_L_of oc_L_figure kV_L_figure dc_L_figure pm_L_figure cd_L_figure ct_L_figure oc_L_leaf kV_L_leaf dc_L_leaf pm_L_leaf cd_L_leaf ct_L_leaf oc_L_expression kV_L_expression dc_L_expression pm_L_expression cd_L_expression ct_L_expression oc_L_lowest kV_L_lowest dc_L_lowest pm_L_lowest cd_L_lowest ct_L_lowest oc_L_shares kV_L_shares dc_L_shares pm_L_shares cd_L_shares ct_L_shares oc_L_registers kV_L_registers dc_L_registers pm_L_registers cd_L_registers ct_L_registers oc_L_parts kV_L_parts dc_L_parts pm_L_parts cd_L_parts ct_L_parts oc_L_size kV_L_size dc_L_size pm_L_size cd_L_size ct_L_size oc_L_deep kV_L_deep dc_L_deep pm_L_deep cd_L_deep ct_L_deep oc_L_by_word kV_L_by_word dc_L_by_word pm_L_by_word cd_L_by_word ct_L_by_word oc_L_other kV_L_other dc_L_other pm_L_other cd_L_other ct_L_other oc_L_turned kV_L_turned dc_L_turned pm_L_turned cd_L_turned ct_L_turned oc_L_right kV_L_right dc_L_right pm_L_right cd_L_right ct_L_right oc_law kV_law dc_law pm_law cd_law ct_law : Value}
    (a_led_part : PySem.W.nsIn K mainGlobals "led_part" = some (some (.ref f_led_part))) (l_led_part : K.lookup f_led_part = some ⟨oc_led_part, od_led_part, .func (PySem.W.fnOf "led_part" "led_part" (defArgs s_led_part) (defBody s_led_part) (defScope s_led_part) .none kV_led_part dc_led_part pm_led_part an_led_part cd_led_part ct_led_part), sl_led_part⟩) (c_led_part : PySem.W.codeIn K cd_led_part "led_part" = true) (k_led_part : PySem.W.keepIn K (.ref f_led_part) = true)
    (a_side_part : PySem.W.nsIn K mainGlobals "side_part" = some (some (.ref f_side_part))) (l_side_part : K.lookup f_side_part = some ⟨oc_side_part, od_side_part, .func (PySem.W.fnOf "side_part" "side_part" (defArgs s_side_part) (defBody s_side_part) (defScope s_side_part) .none kV_side_part dc_side_part pm_side_part an_side_part cd_side_part ct_side_part), sl_side_part⟩) (c_side_part : PySem.W.codeIn K cd_side_part "side_part" = true) (k_side_part : PySem.W.keepIn K (.ref f_side_part) = true)
    (a_join_worths : PySem.W.nsIn K mainGlobals "join_worths" = some (some (.ref f_join_worths))) (l_join_worths : K.lookup f_join_worths = some ⟨oc_join_worths, od_join_worths, .func (PySem.W.fnOf "join_worths" "join_worths" (defArgs s_join_worths) (defBody s_join_worths) (defScope s_join_worths) .none kV_join_worths dc_join_worths pm_join_worths an_join_worths cd_join_worths ct_join_worths), sl_join_worths⟩) (c_join_worths : PySem.W.codeIn K cd_join_worths "join_worths" = true) (k_join_worths : PySem.W.keepIn K (.ref f_join_worths) = true)
    (a_worth : PySem.W.nsIn K mainGlobals "worth" = some (some (.ref f_worth))) (l_worth : K.lookup f_worth = some ⟨oc_worth, od_worth, .func (PySem.W.fnOf "worth" "worth" (defArgs s_worth) (defBody s_worth) (defScope s_worth) .none kV_worth dc_worth pm_worth an_worth cd_worth ct_worth), sl_worth⟩) (c_worth : PySem.W.codeIn K cd_worth "worth" = true) (k_worth : PySem.W.keepIn K (.ref f_worth) = true)
    (a_L_hand : PySem.W.nsIn K mainGlobals "_law_hand" = some (some (.ref f_L_hand))) (l_L_hand : K.lookup f_L_hand = some ⟨oc_L_hand, od_L_hand, .func (PySem.W.fnOf "_law_hand" "_law_hand" (defArgs s_L_hand) (defBody s_L_hand) (defScope s_L_hand) .none kV_L_hand dc_L_hand pm_L_hand an_L_hand cd_L_hand ct_L_hand), sl_L_hand⟩) (c_L_hand : PySem.W.codeIn K cd_L_hand "_law_hand" = true) (k_L_hand : PySem.W.keepIn K (.ref f_L_hand) = true)
    (a_L_take : PySem.W.nsIn K mainGlobals "_law_take" = some (some (.ref f_L_take))) (l_L_take : K.lookup f_L_take = some ⟨oc_L_take, od_L_take, .func (PySem.W.fnOf "_law_take" "_law_take" (defArgs s_L_take) (defBody s_L_take) (defScope s_L_take) .none kV_L_take dc_L_take pm_L_take an_L_take cd_L_take ct_L_take), sl_L_take⟩) (c_L_take : PySem.W.codeIn K cd_L_take "_law_take" = true) (k_L_take : PySem.W.keepIn K (.ref f_L_take) = true)
    (a_L_of : PySem.W.nsIn K mainGlobals "_law_of" = some (some (.ref f_L_of))) (l_L_of : K.lookup f_L_of = some ⟨oc_L_of, od_L_of, .func (PySem.W.fnOf "_law_of" "_law_of" (defArgs s_L_of) (defBody s_L_of) (defScope s_L_of) .none kV_L_of dc_L_of pm_L_of an_L_of cd_L_of ct_L_of), sl_L_of⟩) (c_L_of : PySem.W.codeIn K cd_L_of "_law_of" = true) (k_L_of : PySem.W.keepIn K (.ref f_L_of) = true)
    (a_L_figure : PySem.W.nsIn K mainGlobals "_law_figure" = some (some (.ref f_L_figure))) (l_L_figure : K.lookup f_L_figure = some ⟨oc_L_figure, od_L_figure, .func (PySem.W.fnOf "_law_figure" "_law_figure" (defArgs s_L_figure) (defBody s_L_figure) (defScope s_L_figure) .none kV_L_figure dc_L_figure pm_L_figure an_L_figure cd_L_figure ct_L_figure), sl_L_figure⟩) (c_L_figure : PySem.W.codeIn K cd_L_figure "_law_figure" = true) (k_L_figure : PySem.W.keepIn K (.ref f_L_figure) = true)
    (a_L_leaf : PySem.W.nsIn K mainGlobals "_law_leaf" = some (some (.ref f_L_leaf))) (l_L_leaf : K.lookup f_L_leaf = some ⟨oc_L_leaf, od_L_leaf, .func (PySem.W.fnOf "_law_leaf" "_law_leaf" (defArgs s_L_leaf) (defBody s_L_leaf) (defScope s_L_leaf) .none kV_L_leaf dc_L_leaf pm_L_leaf an_L_leaf cd_L_leaf ct_L_leaf), sl_L_leaf⟩) (c_L_leaf : PySem.W.codeIn K cd_L_leaf "_law_leaf" = true) (k_L_leaf : PySem.W.keepIn K (.ref f_L_leaf) = true)
    (a_L_expression : PySem.W.nsIn K mainGlobals "_law_expression" = some (some (.ref f_L_expression))) (l_L_expression : K.lookup f_L_expression = some ⟨oc_L_expression, od_L_expression, .func (PySem.W.fnOf "_law_expression" "_law_expression" (defArgs s_L_expression) (defBody s_L_expression) (defScope s_L_expression) .none kV_L_expression dc_L_expression pm_L_expression an_L_expression cd_L_expression ct_L_expression), sl_L_expression⟩) (c_L_expression : PySem.W.codeIn K cd_L_expression "_law_expression" = true) (k_L_expression : PySem.W.keepIn K (.ref f_L_expression) = true)
    (a_L_lowest : PySem.W.nsIn K mainGlobals "_law_lowest" = some (some (.ref f_L_lowest))) (l_L_lowest : K.lookup f_L_lowest = some ⟨oc_L_lowest, od_L_lowest, .func (PySem.W.fnOf "_law_lowest" "_law_lowest" (defArgs s_L_lowest) (defBody s_L_lowest) (defScope s_L_lowest) .none kV_L_lowest dc_L_lowest pm_L_lowest an_L_lowest cd_L_lowest ct_L_lowest), sl_L_lowest⟩) (c_L_lowest : PySem.W.codeIn K cd_L_lowest "_law_lowest" = true) (k_L_lowest : PySem.W.keepIn K (.ref f_L_lowest) = true)
    (a_L_shares : PySem.W.nsIn K mainGlobals "_law_shares" = some (some (.ref f_L_shares))) (l_L_shares : K.lookup f_L_shares = some ⟨oc_L_shares, od_L_shares, .func (PySem.W.fnOf "_law_shares" "_law_shares" (defArgs s_L_shares) (defBody s_L_shares) (defScope s_L_shares) .none kV_L_shares dc_L_shares pm_L_shares an_L_shares cd_L_shares ct_L_shares), sl_L_shares⟩) (c_L_shares : PySem.W.codeIn K cd_L_shares "_law_shares" = true) (k_L_shares : PySem.W.keepIn K (.ref f_L_shares) = true)
    (a_L_registers : PySem.W.nsIn K mainGlobals "_law_registers" = some (some (.ref f_L_registers))) (l_L_registers : K.lookup f_L_registers = some ⟨oc_L_registers, od_L_registers, .func (PySem.W.fnOf "_law_registers" "_law_registers" (defArgs s_L_registers) (defBody s_L_registers) (defScope s_L_registers) .none kV_L_registers dc_L_registers pm_L_registers an_L_registers cd_L_registers ct_L_registers), sl_L_registers⟩) (c_L_registers : PySem.W.codeIn K cd_L_registers "_law_registers" = true) (k_L_registers : PySem.W.keepIn K (.ref f_L_registers) = true)
    (a_L_parts : PySem.W.nsIn K mainGlobals "_law_parts" = some (some (.ref f_L_parts))) (l_L_parts : K.lookup f_L_parts = some ⟨oc_L_parts, od_L_parts, .func (PySem.W.fnOf "_law_parts" "_law_parts" (defArgs s_L_parts) (defBody s_L_parts) (defScope s_L_parts) .none kV_L_parts dc_L_parts pm_L_parts an_L_parts cd_L_parts ct_L_parts), sl_L_parts⟩) (c_L_parts : PySem.W.codeIn K cd_L_parts "_law_parts" = true) (k_L_parts : PySem.W.keepIn K (.ref f_L_parts) = true)
    (a_L_size : PySem.W.nsIn K mainGlobals "_law_size" = some (some (.ref f_L_size))) (l_L_size : K.lookup f_L_size = some ⟨oc_L_size, od_L_size, .func (PySem.W.fnOf "_law_size" "_law_size" (defArgs s_L_size) (defBody s_L_size) (defScope s_L_size) .none kV_L_size dc_L_size pm_L_size an_L_size cd_L_size ct_L_size), sl_L_size⟩) (c_L_size : PySem.W.codeIn K cd_L_size "_law_size" = true) (k_L_size : PySem.W.keepIn K (.ref f_L_size) = true)
    (a_L_deep : PySem.W.nsIn K mainGlobals "_law_deep" = some (some (.ref f_L_deep))) (l_L_deep : K.lookup f_L_deep = some ⟨oc_L_deep, od_L_deep, .func (PySem.W.fnOf "_law_deep" "_law_deep" (defArgs s_L_deep) (defBody s_L_deep) (defScope s_L_deep) .none kV_L_deep dc_L_deep pm_L_deep an_L_deep cd_L_deep ct_L_deep), sl_L_deep⟩) (c_L_deep : PySem.W.codeIn K cd_L_deep "_law_deep" = true) (k_L_deep : PySem.W.keepIn K (.ref f_L_deep) = true)
    (a_L_by_word : PySem.W.nsIn K mainGlobals "_law_by_word" = some (some (.ref f_L_by_word))) (l_L_by_word : K.lookup f_L_by_word = some ⟨oc_L_by_word, od_L_by_word, .func (PySem.W.fnOf "_law_by_word" "_law_by_word" (defArgs s_L_by_word) (defBody s_L_by_word) (defScope s_L_by_word) .none kV_L_by_word dc_L_by_word pm_L_by_word an_L_by_word cd_L_by_word ct_L_by_word), sl_L_by_word⟩) (c_L_by_word : PySem.W.codeIn K cd_L_by_word "_law_by_word" = true) (k_L_by_word : PySem.W.keepIn K (.ref f_L_by_word) = true)
    (a_L_other : PySem.W.nsIn K mainGlobals "_law_other" = some (some (.ref f_L_other))) (l_L_other : K.lookup f_L_other = some ⟨oc_L_other, od_L_other, .func (PySem.W.fnOf "_law_other" "_law_other" (defArgs s_L_other) (defBody s_L_other) (defScope s_L_other) .none kV_L_other dc_L_other pm_L_other an_L_other cd_L_other ct_L_other), sl_L_other⟩) (c_L_other : PySem.W.codeIn K cd_L_other "_law_other" = true) (k_L_other : PySem.W.keepIn K (.ref f_L_other) = true)
    (a_L_turned : PySem.W.nsIn K mainGlobals "_law_turned" = some (some (.ref f_L_turned))) (l_L_turned : K.lookup f_L_turned = some ⟨oc_L_turned, od_L_turned, .func (PySem.W.fnOf "_law_turned" "_law_turned" (defArgs s_L_turned) (defBody s_L_turned) (defScope s_L_turned) .none kV_L_turned dc_L_turned pm_L_turned an_L_turned cd_L_turned ct_L_turned), sl_L_turned⟩) (c_L_turned : PySem.W.codeIn K cd_L_turned "_law_turned" = true) (k_L_turned : PySem.W.keepIn K (.ref f_L_turned) = true)
    (a_L_right : PySem.W.nsIn K mainGlobals "_law_right" = some (some (.ref f_L_right))) (l_L_right : K.lookup f_L_right = some ⟨oc_L_right, od_L_right, .func (PySem.W.fnOf "_law_right" "_law_right" (defArgs s_L_right) (defBody s_L_right) (defScope s_L_right) .none kV_L_right dc_L_right pm_L_right an_L_right cd_L_right ct_L_right), sl_L_right⟩) (c_L_right : PySem.W.codeIn K cd_L_right "_law_right" = true) (k_L_right : PySem.W.keepIn K (.ref f_L_right) = true)
    (a_law : PySem.W.nsIn K mainGlobals "law" = some (some (.ref f_law))) (l_law : K.lookup f_law = some ⟨oc_law, od_law, .func (PySem.W.fnOf "law" "law" (defArgs s_law) (defBody s_law) (defScope s_law) .none kV_law dc_law pm_law an_law cd_law ct_law), sl_law⟩) (c_law : PySem.W.codeIn K cd_law "law" = true) (k_law : PySem.W.keepIn K (.ref f_law) = true)
    (z_len : PySem.W.nsIn K mainGlobals "len" = some none)
    (z_sum : PySem.W.nsIn K mainGlobals "sum" = some none)
    (z_max : PySem.W.nsIn K mainGlobals "max" = some none)
    (z_min : PySem.W.nsIn K mainGlobals "min" = some none)
    (z_abs : PySem.W.nsIn K mainGlobals "abs" = some none)
    (z_int : PySem.W.nsIn K mainGlobals "int" = some none)
    (z_tuple : PySem.W.nsIn K mainGlobals "tuple" = some none)
    (z_range : PySem.W.nsIn K mainGlobals "range" = some none)
    (z_sorted : PySem.W.nsIn K mainGlobals "sorted" = some none)
    (z_zip : PySem.W.nsIn K mainGlobals "zip" = some none)
    (z_isinstance : PySem.W.nsIn K mainGlobals "isinstance" = some none)
    (z_list : PySem.W.nsIn K mainGlobals "list" = some none)
    (z_all : PySem.W.nsIn K mainGlobals "all" = some none)
    (z_repr : PySem.W.nsIn K mainGlobals "repr" = some none)
    (z_str : PySem.W.nsIn K mainGlobals "str" = some none)
    (z_enumerate : PySem.W.nsIn K mainGlobals "enumerate" = some none)
    : ∃ fd : FuncData, (∀ (s : Shared) (v : Value), BindsTo s fd ⟨[v], []⟩ [("_law_script", v)]) ∧ ∀ base : Heap, K.In base → base.Ns mainGlobals mg → FnOk l.prog w K mg base CX0 16 fa fd ["_law_script"] (spLaw K) := by
  have e := hfa.symm.trans (PySem.W.mg_of X G a_law)
  cases e
  have F_led_part := fun_mk (st := s_led_part) l_led_part c_led_part k_led_part
  have g_led_part := PySem.W.mg_of X G a_led_part
  have b_led_part := F_led_part.binds (ps := ["expression", "registers"]) fun _ _ _ _ _ _ us hl => match us, hl with | [_, _], _ => rfl
  have F_side_part := fun_mk (st := s_side_part) l_side_part c_side_part k_side_part
  have g_side_part := PySem.W.mg_of X G a_side_part
  have b_side_part := F_side_part.binds (ps := ["expression", "shares"]) fun _ _ _ _ _ _ us hl => match us, hl with | [_, _], _ => rfl
  have F_join_worths := fun_mk (st := s_join_worths) l_join_worths c_join_worths k_join_worths
  have g_join_worths := PySem.W.mg_of X G a_join_worths
  have b_join_worths := F_join_worths.binds (ps := ["word", "first", "second"]) fun _ _ _ _ _ _ us hl => match us, hl with | [_, _, _], _ => rfl
  have F_worth := fun_mk (st := s_worth) l_worth c_worth k_worth
  have g_worth := PySem.W.mg_of X G a_worth
  have b_worth := F_worth.binds (ps := ["expression", "registers", "shares"]) fun _ _ _ _ _ _ us hl => match us, hl with | [_, _, _], _ => rfl
  have F_L_hand := fun_mk (st := s_L_hand) l_L_hand c_L_hand k_L_hand
  have g_L_hand := PySem.W.mg_of X G a_L_hand
  have b_L_hand := F_L_hand.binds (ps := ["_law_script", "_law_k"]) fun _ _ _ _ _ _ us hl => match us, hl with | [_, _], _ => rfl
  have F_L_take := fun_mk (st := s_L_take) l_L_take c_L_take k_L_take
  have g_L_take := PySem.W.mg_of X G a_L_take
  have b_L_take := F_L_take.binds (ps := ["_law_hand_here", "_law_many"]) fun _ _ _ _ _ _ us hl => match us, hl with | [_, _], _ => rfl
  have F_L_of := fun_mk (st := s_L_of) l_L_of c_L_of k_L_of
  have g_L_of := PySem.W.mg_of X G a_L_of
  have b_L_of := F_L_of.binds (ps := ["_law_hand_here", "_law_some"]) fun _ _ _ _ _ _ us hl => match us, hl with | [_, _], _ => rfl
  have F_L_figure := fun_mk (st := s_L_figure) l_L_figure c_L_figure k_L_figure
  have g_L_figure := PySem.W.mg_of X G a_L_figure
  have b_L_figure := F_L_figure.binds (ps := ["_law_hand_here"]) fun _ _ _ _ _ _ us hl => match us, hl with | [_], _ => rfl
  have F_L_leaf := fun_mk (st := s_L_leaf) l_L_leaf c_L_leaf k_L_leaf
  have g_L_leaf := PySem.W.mg_of X G a_L_leaf
  have b_L_leaf := F_L_leaf.binds (ps := ["_law_hand_here", "_law_many"]) fun _ _ _ _ _ _ us hl => match us, hl with | [_, _], _ => rfl
  have F_L_expression := fun_mk (st := s_L_expression) l_L_expression c_L_expression k_L_expression
  have g_L_expression := PySem.W.mg_of X G a_L_expression
  have b_L_expression := F_L_expression.binds (ps := ["_law_hand_here", "_law_many", "_law_level", "_law_jumps"]) fun _ _ _ _ _ _ us hl => match us, hl with | [_, _, _, _], _ => rfl
  have F_L_lowest := fun_mk (st := s_L_lowest) l_L_lowest c_L_lowest k_L_lowest
  have g_L_lowest := PySem.W.mg_of X G a_L_lowest
  have b_L_lowest := F_L_lowest.binds (ps := ["_law_row"]) fun _ _ _ _ _ _ us hl => match us, hl with | [_], _ => rfl
  have F_L_shares := fun_mk (st := s_L_shares) l_L_shares c_L_shares k_L_shares
  have g_L_shares := PySem.W.mg_of X G a_L_shares
  have b_L_shares := F_L_shares.binds (ps := ["_law_hand_here", "_law_many"]) fun _ _ _ _ _ _ us hl => match us, hl with | [_, _], _ => rfl
  have F_L_registers := fun_mk (st := s_L_registers) l_L_registers c_L_registers k_L_registers
  have g_L_registers := PySem.W.mg_of X G a_L_registers
  have b_L_registers := F_L_registers.binds (ps := ["_law_hand_here"]) fun _ _ _ _ _ _ us hl => match us, hl with | [_], _ => rfl
  have F_L_parts := fun_mk (st := s_L_parts) l_L_parts c_L_parts k_L_parts
  have g_L_parts := PySem.W.mg_of X G a_L_parts
  have b_L_parts := F_L_parts.binds (ps := ["_law_expression_here"]) fun _ _ _ _ _ _ us hl => match us, hl with | [_], _ => rfl
  have F_L_size := fun_mk (st := s_L_size) l_L_size c_L_size k_L_size
  have g_L_size := PySem.W.mg_of X G a_L_size
  have b_L_size := F_L_size.binds (ps := ["_law_expression_here"]) fun _ _ _ _ _ _ us hl => match us, hl with | [_], _ => rfl
  have F_L_deep := fun_mk (st := s_L_deep) l_L_deep c_L_deep k_L_deep
  have g_L_deep := PySem.W.mg_of X G a_L_deep
  have b_L_deep := F_L_deep.binds (ps := ["_law_expression_here"]) fun _ _ _ _ _ _ us hl => match us, hl with | [_], _ => rfl
  have F_L_by_word := fun_mk (st := s_L_by_word) l_L_by_word c_L_by_word k_L_by_word
  have g_L_by_word := PySem.W.mg_of X G a_L_by_word
  have b_L_by_word := F_L_by_word.binds (ps := ["_law_expression_here", "_law_leaf_here"]) fun _ _ _ _ _ _ us hl => match us, hl with | [_, _], _ => rfl
  have F_L_other := fun_mk (st := s_L_other) l_L_other c_L_other k_L_other
  have g_L_other := PySem.W.mg_of X G a_L_other
  have b_L_other := F_L_other.binds (ps := ["_law_hand_here", "_law_expression_here", "_law_many"]) fun _ _ _ _ _ _ us hl => match us, hl with | [_, _, _], _ => rfl
  have F_L_turned := fun_mk (st := s_L_turned) l_L_turned c_L_turned k_L_turned
  have g_L_turned := PySem.W.mg_of X G a_L_turned
  have b_L_turned := F_L_turned.binds (ps := ["_law_hand_here", "_law_expression_here", "_law_many"]) fun _ _ _ _ _ _ us hl => match us, hl with | [_, _, _], _ => rfl
  have F_L_right := fun_mk (st := s_L_right) l_L_right c_L_right k_L_right
  have g_L_right := PySem.W.mg_of X G a_L_right
  have b_L_right := F_L_right.binds (ps := ["_law_hand_here", "_law_many"]) fun _ _ _ _ _ _ us hl => match us, hl with | [_, _], _ => rfl
  have F_law := fun_mk (st := s_law) l_law c_law k_law
  have g_law := PySem.W.mg_of X G a_law
  have B : Bl mg := ⟨PySem.W.mg_none_of X G z_len, PySem.W.mg_none_of X G z_sum, PySem.W.mg_none_of X G z_max, PySem.W.mg_none_of X G z_min, PySem.W.mg_none_of X G z_abs, PySem.W.mg_none_of X G z_int, PySem.W.mg_none_of X G z_tuple, PySem.W.mg_none_of X G z_range, PySem.W.mg_none_of X G z_sorted, PySem.W.mg_none_of X G z_zip, PySem.W.mg_none_of X G z_isinstance, PySem.W.mg_none_of X G z_list, PySem.W.mg_none_of X G z_all, PySem.W.mg_none_of X G z_repr, PySem.W.mg_none_of X G z_str, PySem.W.mg_none_of X G z_enumerate⟩
  refine ⟨PySem.W.fnOf "law" "law" (defArgs s_law) (defBody s_law) (defScope s_law) .none kV_law dc_law pm_law an_law cd_law ct_law, fun s v => .of_eq rfl, fun base _ _ => ?_⟩
  have c_hand := ok_hand (P := l.prog) (w := w) (base := base) F_L_hand g_L_hand b_L_hand B
  have c_take := ok_take (P := l.prog) (w := w) (base := base) F_L_take g_L_take b_L_take
  have c_of := ok_of F_L_of g_L_of b_L_of B c_take
  have c_figure := ok_figure F_L_figure g_L_figure b_L_figure B c_take c_of
  have c_leaf := ok_leaf F_L_leaf g_L_leaf b_L_leaf B c_take c_figure
  have c_expr := ok_expr F_L_expression g_L_expression b_L_expression B c_take c_of c_figure c_leaf 3
  have c_low := ok_low (P := l.prog) (w := w) (base := base) F_L_lowest g_L_lowest b_L_lowest B
  have c_shares := ok_shares F_L_shares g_L_shares b_L_shares B c_take c_of c_low
  have c_regs := ok_regs F_L_registers g_L_registers b_L_registers B c_figure
  have c_led := ok_led (P := l.prog) (w := w) (base := base) F_led_part g_led_part b_led_part B
  have c_side := ok_side (P := l.prog) (w := w) (base := base) F_side_part g_side_part b_side_part B
  have c_join := ok_joinW (P := l.prog) (w := w) (base := base) F_join_worths g_join_worths b_join_worths B
  have c_worth := ok_worth F_worth g_worth b_worth B c_led c_side c_join 8
  have c_parts := ok_kids (P := l.prog) (w := w) (base := base) F_L_parts g_L_parts b_L_parts B
  have c_size := ok_size F_L_size g_L_size b_L_size B c_parts 10
  have c_deep := ok_deep F_L_deep g_L_deep b_L_deep B c_parts 10
  have c_byw := ok_byword (P := l.prog) (w := w) (base := base) F_L_by_word g_L_by_word b_L_by_word B
  have c_other := ok_other F_L_other g_L_other b_L_other B c_take c_of c_figure c_leaf c_byw
  have c_turned := ok_turned F_L_turned g_L_turned b_L_turned B c_take c_of c_other 8
  have c_right := ok_right F_L_right g_L_right b_L_right B c_take c_figure c_expr c_turned c_size c_deep c_shares c_low c_regs c_worth
  exact ok_law F_law B c_hand c_right
end NG
open PySem PySem.W PyProof.Rows
set_option maxHeartbeats 0 in
theorem PySem.Challenge.cw_nonegrowsrich_k08_whole_rewritten_by_law_holds : PySem.Challenge.rw_nonegrowsrich_k08_whole_rewritten_by_law.Holds := by
  w_on; o_law; k_head; (case hw => w_witness2)
  k_fill
  refine L2.walk_of (l := PySem.Challenge.rw_nonegrowsrich_k08_whole_rewritten_by_law) (n := 63) (k := 16) (x := "_law_script") (CX := fun _ => L2.CX0) (sp := fun w => NG.spLaw _) rfl (by decide) rfl ⟨rfl, by decide, by decide⟩ (fun w h Y => PySem.W.kIn_of Y) ?F (fun _ _ a ns hl _ hS => ⟨a, ns, rfl, hS, hl, fun _ => rfl⟩) (fun _ _ _ _ _ h => h)
  case F =>
    intro w mg fa h KX G hmg
    refine' NG.all_mk KX G hmg ?a_led_part ?l_led_part ?c_led_part ?k_led_part ?a_side_part ?l_side_part ?c_side_part ?k_side_part ?a_join_worths ?l_join_worths ?c_join_worths ?k_join_worths ?a_worth ?l_worth ?c_worth ?k_worth ?a_L_hand ?l_L_hand ?c_L_hand ?k_L_hand ?a_L_take ?l_L_take ?c_L_take ?k_L_take ?a_L_of ?l_L_of ?c_L_of ?k_L_of ?a_L_figure ?l_L_figure ?c_L_figure ?k_L_figure ?a_L_leaf ?l_L_leaf ?c_L_leaf ?k_L_leaf ?a_L_expression ?l_L_expression ?c_L_expression ?k_L_expression ?a_L_lowest ?l_L_lowest ?c_L_lowest ?k_L_lowest ?a_L_shares ?l_L_shares ?c_L_shares ?k_L_shares ?a_L_registers ?l_L_registers ?c_L_registers ?k_L_registers ?a_L_parts ?l_L_parts ?c_L_parts ?k_L_parts ?a_L_size ?l_L_size ?c_L_size ?k_L_size ?a_L_deep ?l_L_deep ?c_L_deep ?k_L_deep ?a_L_by_word ?l_L_by_word ?c_L_by_word ?k_L_by_word ?a_L_other ?l_L_other ?c_L_other ?k_L_other ?a_L_turned ?l_L_turned ?c_L_turned ?k_L_turned ?a_L_right ?l_L_right ?c_L_right ?k_L_right ?a_law ?l_law ?c_law ?k_law ?z_len ?z_sum ?z_max ?z_min ?z_abs ?z_int ?z_tuple ?z_range ?z_sorted ?z_zip ?z_isinstance ?z_list ?z_all ?z_repr ?z_str ?z_enumerate
    (case a_led_part => k_is); (case l_led_part => k_is); (case c_led_part => k_is); (case k_led_part => k_is); (case a_side_part => k_is); (case l_side_part => k_is); (case c_side_part => k_is); (case k_side_part => k_is); (case a_join_worths => k_is); (case l_join_worths => k_is); (case c_join_worths => k_is); (case k_join_worths => k_is); (case a_worth => k_is); (case l_worth => k_is); (case c_worth => k_is); (case k_worth => k_is); (case a_L_hand => k_is); (case l_L_hand => k_is); (case c_L_hand => k_is); (case k_L_hand => k_is); (case a_L_take => k_is); (case l_L_take => k_is); (case c_L_take => k_is); (case k_L_take => k_is); (case a_L_of => k_is); (case l_L_of => k_is); (case c_L_of => k_is); (case k_L_of => k_is); (case a_L_figure => k_is); (case l_L_figure => k_is); (case c_L_figure => k_is); (case k_L_figure => k_is); (case a_L_leaf => k_is); (case l_L_leaf => k_is); (case c_L_leaf => k_is); (case k_L_leaf => k_is); (case a_L_expression => k_is); (case l_L_expression => k_is); (case c_L_expression => k_is); (case k_L_expression => k_is); (case a_L_lowest => k_is); (case l_L_lowest => k_is); (case c_L_lowest => k_is); (case k_L_lowest => k_is); (case a_L_shares => k_is); (case l_L_shares => k_is); (case c_L_shares => k_is); (case k_L_shares => k_is); (case a_L_registers => k_is); (case l_L_registers => k_is); (case c_L_registers => k_is); (case k_L_registers => k_is); (case a_L_parts => k_is); (case l_L_parts => k_is); (case c_L_parts => k_is); (case k_L_parts => k_is); (case a_L_size => k_is); (case l_L_size => k_is); (case c_L_size => k_is); (case k_L_size => k_is); (case a_L_deep => k_is); (case l_L_deep => k_is); (case c_L_deep => k_is); (case k_L_deep => k_is); (case a_L_by_word => k_is); (case l_L_by_word => k_is); (case c_L_by_word => k_is); (case k_L_by_word => k_is); (case a_L_other => k_is); (case l_L_other => k_is); (case c_L_other => k_is); (case k_L_other => k_is); (case a_L_turned => k_is); (case l_L_turned => k_is); (case c_L_turned => k_is); (case k_L_turned => k_is); (case a_L_right => k_is); (case l_L_right => k_is); (case c_L_right => k_is); (case k_L_right => k_is); (case a_law => k_is); (case l_law => k_is); (case c_law => k_is); (case k_law => k_is); (case z_len => k_is); (case z_sum => k_is); (case z_max => k_is); (case z_min => k_is); (case z_abs => k_is); (case z_int => k_is); (case z_tuple => k_is); (case z_range => k_is); (case z_sorted => k_is); (case z_zip => k_is); (case z_isinstance => k_is); (case z_list => k_is); (case z_all => k_is); (case z_repr => k_is); (case z_str => k_is); (case z_enumerate => k_is)

